/-
  Of all states and texts the name, and whose it is, are told. The variable of the states' names holds what the program's text lays in it.
-/
import Derived.Test.YtdmkekiefbbopaaDoorRows
import Derived.Test.YtdmkekiefbbopaaDoorPtN
import Derived.Test.YtdmkekiefbbopaaDoorOpenPt
import Derived.Test.YtdmkekiefbbopaaDoorTie
import Derived.Test.YtdmkekiefbbopaaDoorCards
import Derived.ProofKit
import Derived.LaidMore
import Derived.Stop.Joined
import Derived.SevenTiedAt
import Derived.Deep.RegionHeld3
import Derived.WalkKit
import Derived.ProofKit
import Derived.OpenShut
namespace Go.Proofs.YtdmkekiefbbopaaDoor.portNames
open Go.ChangeShapes Go.WideShapes Go.ChangeAt Go.RowKit
open Go.ChangeMaps (open_string)
set_option linter.unusedVariables false

theorem own : ownKnob Tryd.prog.godebug = none := by kernel_rfl

set_option maxRecDepth 100000 in
set_option maxHeartbeats 3200000 in
theorem walk (W : World) (hN : Names W) (a0 : Int) (b0 : -9223372036854775808 ≤ a0 ∧ a0 ≤ 9223372036854775807) (a1 : ByteArray) (b1 : a1.size ≤ maxLen) :
    Calls Tryd.prog 5 #[.int .i64 a0, .string a1] W (Says (.bool true) W) := by
  have hNm := Lib.hid (ref16_Names W)
  have HR := Lib.hid fun W => ref16_Right a0 W
  have hss : ∀ x : ByteArray, (x.toList == x.toList) = true := fun x => by simp
  go_enter Tryd.func5, Tryd.ntmps5
  go_wp2_with fail
  refine (hNm.out).mono ?_
  rintro e w1 ⟨rfl, hrow, hB1⟩
  have hN1 := hN.below hB1 hN.size
  have HC : Hid (∀ k, k < 5 → w1.cell? ⟨W.heap.size, k, none⟩ = some (.string (nameB k))) := fun k hk => by
    have hk' : k = 0 ∨ k = 1 ∨ k = 2 ∨ k = 3 ∨ k = 4 := by omega
    rcases hk' with rfl | rfl | rfl | rfl | rfl
    · exact hrow.c0
    · exact hrow.c1
    · exact hrow.c2
    · exact hrow.c3
    · exact hrow.c4
  have hlt := hrow.lt
  have HPa := port_Parse hN1 a1
  have HT := Lib.hid (told16 hN1)
  have HNm := Lib.hid (fun w' (hb : Below w1.heap.size w1 w') => port_Name (hN1.below hb hN1.size) a0)
  clear hrow hNm hN hN1
  go_wp2
  go_loopw [6, 7, 8] (fun a z i wr => ∃ k : Nat, k ≤ 5 ∧ i = .int .i64 k ∧ Hid (a = .int .i64 (wantN a1 k) ∧ z = .bool (isN a1 k)) ∧ wr = w1) (fun _ _ i _ => 5 - (intOf i).toNat)
  case atStart => exact ⟨0, by omega, rfl, ⟨rfl, rfl⟩, rfl⟩
  case round =>
    obtain ⟨k, hk, rfl, HV, rfl⟩ := hrel
    obtain ⟨rfl, rfl⟩ := HV.out
    by_cases hk5 : k = 5
    · subst hk5
      clear HV
      unfold parseT at HPa
      generalize wantN a1 5 = X at *
      have hxx : (X == X) = true := by simp
      cases hz : isN a1 5
      · rw [hz] at HPa
        simp only [Bool.false_eq_true, if_false] at HPa
        have HPa := Lib.hid HPa
        clear hz
        by_cases hr : rightS a0 = true
        · have h' := rightS_iff.1 hr
          rw [hr] at HR
          have hs : nameS a0 = nameB a0.toNat := by unfold nameS; rw [hr]; rfl
          rw [hs] at HNm
          clear hr hs
          obtain ⟨j, rfl⟩ := Int.eq_ofNat_of_zero_le h'.1
          rw [Int.toNat_natCast] at HNm
          have hj : j < 5 := by omega
          have c0 := HC.out j hj
          generalize nameB j = B at *
          have HNm := HNm
          clear HC
          go_wp2_with fail
          refine (HPa.out).mono ?_
          rintro e w2 ⟨rfl, rfl⟩
          go_wp2_with fail
          refine (HR.out _).mono ?_
          rintro e w2 ⟨rfl, rfl⟩
          go_wp2_with fail
          refine (HT.out).mono ?_
          rintro e w3 ⟨rfl, hb⟩
          have HB := Lib.hid (Below.trans hB1 (hb.mono hB1.size))
          have hN3 := HNm.out _ hb
          clear hb
          go_wp2_with fail
          refine (hN3).mono ?_
          rintro e w4 ⟨rfl, rfl⟩
          go_wp2
          go_ret
          exact ⟨by first | rfl | (simp; done), HB.out⟩
        · have hr : rightS a0 = false := by simpa using hr
          rw [hr] at HR
          have hs : nameS a0 = ⟨#[]⟩ := by unfold nameS; rw [hr]; rfl
          rw [hs] at HNm
          clear hr hs HC
          go_wp2_with fail
          refine (HPa.out).mono ?_
          rintro e w2 ⟨rfl, rfl⟩
          go_wp2_with fail
          refine (HR.out _).mono ?_
          rintro e w2 ⟨rfl, rfl⟩
          go_wp2_with fail
          refine (HT.out).mono ?_
          rintro e w3 ⟨rfl, hb⟩
          have HB := Lib.hid (Below.trans hB1 (hb.mono hB1.size))
          have hN3 := HNm.out _ hb
          clear hb
          go_wp2_with fail
          refine (hN3).mono ?_
          rintro e w4 ⟨rfl, rfl⟩
          go_wp2
          go_ret
          exact ⟨by first | rfl | (simp; done), HB.out⟩
      · rw [hz] at HPa
        simp only [if_true] at HPa
        have HPa := Lib.hid HPa
        clear hz
        by_cases hr : rightS a0 = true
        · have h' := rightS_iff.1 hr
          rw [hr] at HR
          have hs : nameS a0 = nameB a0.toNat := by unfold nameS; rw [hr]; rfl
          rw [hs] at HNm
          clear hr hs
          obtain ⟨j, rfl⟩ := Int.eq_ofNat_of_zero_le h'.1
          rw [Int.toNat_natCast] at HNm
          have hj : j < 5 := by omega
          have c0 := HC.out j hj
          generalize nameB j = B at *
          have HNm := HNm
          clear HC
          go_wp2_with fail
          refine (HPa.out).mono ?_
          rintro e w2 ⟨rfl, rfl⟩
          go_wp2_with fail
          refine (HR.out _).mono ?_
          rintro e w2 ⟨rfl, rfl⟩
          go_wp2_with fail
          refine (HT.out).mono ?_
          rintro e w3 ⟨rfl, hb⟩
          have HB := Lib.hid (Below.trans hB1 (hb.mono hB1.size))
          have hN3 := HNm.out _ hb
          clear hb
          go_wp2_with fail
          refine (hN3).mono ?_
          rintro e w4 ⟨rfl, rfl⟩
          go_wp2
          go_ret
          exact ⟨by first | rfl | (simp; done), HB.out⟩
        · have hr : rightS a0 = false := by simpa using hr
          rw [hr] at HR
          have hs : nameS a0 = ⟨#[]⟩ := by unfold nameS; rw [hr]; rfl
          rw [hs] at HNm
          clear hr hs HC
          go_wp2_with fail
          refine (HPa.out).mono ?_
          rintro e w2 ⟨rfl, rfl⟩
          go_wp2_with fail
          refine (HR.out _).mono ?_
          rintro e w2 ⟨rfl, rfl⟩
          go_wp2_with fail
          refine (HT.out).mono ?_
          rintro e w3 ⟨rfl, hb⟩
          have HB := Lib.hid (Below.trans hB1 (hb.mono hB1.size))
          have hN3 := HNm.out _ hb
          clear hb
          go_wp2_with fail
          refine (hN3).mono ?_
          rintro e w4 ⟨rfl, rfl⟩
          go_wp2
          go_ret
          exact ⟨by first | rfl | (simp; done), HB.out⟩
    · have hlk : k < 5 := by omega
      have c0 := HC.out k hlk
      clear HPa HT HNm
      by_cases h : nameB k = a1
      · have hs : ((nameB k).toList == a1.toList) = true := by rw [h]; exact hss _
        have hv : wantN a1 (k + 1) = (k : Int) ∧ isN a1 (k + 1) = true := by unfold wantN isN; rw [if_pos h, if_pos h]; exact ⟨rfl, rfl⟩
        have HVV := Lib.hid hv
        clear h hv HV
        generalize nameB k = B at *
        go_wp2
        go_roundw
        case rel => exact ⟨k + 1, by omega, by go_num, ⟨by rw [HVV.out.1], by rw [HVV.out.2]⟩, trivial⟩
        case measure => simp [intOf]; omega
      · have hs : ((nameB k).toList == a1.toList) = false := cmp_ne h
        have hv : wantN a1 (k + 1) = wantN a1 k ∧ isN a1 (k + 1) = isN a1 k := by rw [wantN, isN, if_neg h, if_neg h]; exact ⟨rfl, rfl⟩
        have HVV := Lib.hid hv
        clear h hv HV
        generalize nameB k = B at *
        generalize wantN a1 k = X at *
        generalize isN a1 k = Z at *
        go_wp2
        go_roundw
        case rel => exact ⟨k + 1, by omega, by go_num, ⟨by rw [HVV.out.1], by rw [HVV.out.2]⟩, trivial⟩
        case measure => simp [intOf]; omega

set_option maxRecDepth 100000 in
/-- What the walk gives, for every argument: the row's own words. -/
theorem contract (H : Type) (enc : TypeId × Value → H) (W : World) (base : Nat) (args : Array Value) (ds gs : List (DataW H)) (before : List MemPlace)
    (hval : ∀ (j : Nat) t v, Tryd.f5.params[j]? = some t → args[j]? = some v → Value.okWide Tryd.prog W .any base t v)
    (hW : DataW.Whole enc Tryd.prog Tryd.f5.params.toList Rows.portNamesSpec.vars false W args.toList ds gs before)
    (hL : laidMetH Tryd.prog [("patchbay/port.names", Rows.laid_patchbay_port_names)] W) :
    Calls Tryd.prog 5 args W fun e W' => ∃ v, e = .returned v ∧ Rows.portNamesSpec.post enc Tryd.prog Tryd.f5 false true false false W args v W' := by
  have hW' := hW
  obtain ⟨p, q, hA0, hV, rfl, hfz, hnd⟩ := hW
  have hA : DataW.TrodAll enc Tryd.prog W 0 (fun _ => true) true Tryd.f5.params.toList args.toList ds p := hA0
  rw [Tryd.params5] at hA hval
  obtain ⟨v0, vs0, d0, ds0, p0, q0, hargs, rfl, rfl, h0, r0⟩ := trodAll_cons hA
  obtain ⟨v1, vs1, d1, ds1, p1, q1, rfl, rfl, rfl, h1, r1⟩ := trodAll_cons r0
  obtain ⟨rfl, rfl, rfl⟩ := trodAll_nil r1
  obtain rfl : args = #[v0, v1] := by cases args; simp_all
  obtain ⟨a0, rfl, b0⟩ := open_i64 Tryd.underlying3 (hval 0 3 v0 rfl rfl) h0
  obtain ⟨a1, rfl, _, _, b1⟩ := open_string Tryd.underlying9 (hval 1 9 v1 rfl rfl) h1
  refine (walk W (of_laid hL) a0 b0 a1 b1).mono fun e W' ⟨he, hb⟩ => ?_
  subst he
  exact close_true (by kernel_rfl) Tryd.underlying4 (by kernel_rfl) (by kernel_rfl) rfl rfl hW' hb

theorem door_met (os : Os) (args : Array Value) : laidMetH Tryd.prog [("patchbay/port.names", Rows.laid_patchbay_port_names)] ((World.doorLaid Tryd.prog 14 os).forCall (fun _ _ => 0) ⟨#[], args, []⟩).memory :=
  laidMetH_of_parts3 (fuel := 8) (laidMet_of_run' 8 (by kernel_rfl) (by kernel_rfl)) (by kernel_rfl) (by kernel_rfl)
set_option maxRecDepth 100000 in
theorem lifted (os : Os) (started : os.Started) (H : Type) (enc : TypeId × Value → H) :
    ReturnsInHanded {} Tryd.checked os 5 .any (fun w args => (Rows.portNamesSpec.pre enc Tryd.prog Tryd.f5 [] false w args ∧ laidMetH Tryd.prog [("patchbay/port.names", Rows.laid_patchbay_port_names)] w) ∧ sizedMet enc Tryd.prog Tryd.f5 (OpenSpec.ofChange Rows.portNamesSpec) false w args)
      (Rows.portNamesSpec.post enc Tryd.prog Tryd.f5 false true false false) := by
  refine returnsInHanded_of_change_and (C := Tryd.checked) (X := fun w _ => laidMetH Tryd.prog [("patchbay/port.names", Rows.laid_patchbay_port_names)] w) (fun _ _ _ hh h => h.of_heap hh) own started (by kernel_rfl) Tryd.func5
    (ChangeSpec.witness_shaped (enc := enc) (C := Tryd.checked) (os := os) (X := fun w _ => laidMetH Tryd.prog [("patchbay/port.names", Rows.laid_patchbay_port_names)] w) false (World.doorLaid Tryd.prog 14 os) #[.int .i64 0, .string .empty] 8 rfl (World.shaped_of_RefB (by kernel_rfl) (by kernel_rfl)) (by kernel_rfl) (by kernel_rfl) (by kernel_rfl) (door_met os _)) ?_
  intro W base args ds gs before hval hW _ _ hL _
  exact contract H enc W base args ds gs before hval hW hL

theorem proved : Rows.PortNamesSaid :=
  OpenClaim.holds_of_wide 5 Tryd.f5 rfl rfl rfl rfl rfl rfl rfl ⟨rfl, rfl, rfl, rfl, rfl⟩ rfl rfl rfl rfl rfl (by kernel_rfl) Tryd.func5 (by kernel_rfl)
    (of_decide_eq_true (by kernel_rfl)) (by unfold Func.isWrapper; first | (rw [if_pos (by decide +kernel)]; kernel_rfl) | (rw [if_neg (by decide +kernel)]; exact ⟨rfl, rfl⟩))
    (fun os started H enc _ => lifted os started H enc)
theorem portNames_tied : Rows.portNamesRow.laidByTextAt .later Tryd.pinned [.data] true := portNames_row_tie
/-- The tied card. -/
theorem card : Rows.PortNamesCardSaid :=
  Claim7.holds_tied_plain_at .later [] [.data] true (true, "45b36e94fd4fd72db5b69070588e2867b8d491eed9207ad0edb6f46594962c73") false
    proved (fun _ h => by cases h) (by kernel_rfl) (fun _ h => by cases h) portNames_tied rfl ⟨rfl, rfl⟩ (by kernel_rfl) rfl
    (fun f fn hf hfn => by
      obtain rfl : f = 5 := Option.some.inj ((show Tryd.prog.funcNamed "patchbay/patchbaylaw16.PortNames" = some 5 by kernel_rfl).symm.trans hf) |>.symm
      obtain rfl : fn = Tryd.f5 := (Option.some.inj (Tryd.func5.symm.trans hfn)).symm
      exact ⟨by kernel_rfl, fun j t ht => by
        rw [Tryd.params5] at ht
        rcases j with _ | j
        · obtain rfl : t = 3 := by simpa using ht.symm
          exact (show Tryd.prog.wantsStandIn 3 = false by kernel_rfl)
        rcases j with _ | j
        · obtain rfl : t = 9 := by simpa using ht.symm
          exact (show Tryd.prog.wantsStandIn 9 = false by kernel_rfl)
        simp at ht⟩)
    (by kernel_rfl)
#print axioms card
end Go.Proofs.YtdmkekiefbbopaaDoor.portNames
