/-
  Of all bytes the program tells the address that the document tells, or that there are too few; of every number the bytes, and whether it is an address's; what is handed in stays. No condition.
-/
import Derived.Test.YtkfgnbplomcjfaaRows
import Derived.Test.YtkfgnbplomcjfaaMacTold
import Derived.Deep.RegionHeld3
import Derived.WalkKit
import Derived.ProofKit
import Derived.OpenShut
namespace Go.Proofs.Ytkfgnbplomcjfaa.macBytes
open Go.ChangeShapes Go.WideShapes Go.ChangeAt Go.RowKit
open Go.ChangeMaps (open_string)
set_option linter.unusedVariables false

theorem own : ownKnob Try.prog.godebug = none := by kernel_rfl

set_option maxHeartbeats 1600000 in
theorem walk (W : World) (a0 : Value) (l0 : List Nat) (b0 : Sl W W.heap.size 1 a0 l0.length (bv l0)) (c0 : ∀ x ∈ l0, x < 256) (a1 : Nat) (b1 : a1 < 18446744073709551616) :
    Calls Try.prog 3 #[a0, .int .u64 (a1 : Int)] W (Says (.bool true) W) := by
  obtain ⟨A, cap, hv, hcap, hmx⟩ := b0.form
  subst hv
  obtain ⟨K, hK⟩ : ∃ K, K = min l0.length 100 := ⟨_, rfl⟩
  have hK1 : K ≤ l0.length := by omega
  have hK2 : K ≤ 100 := by omega
  have hif : (if (100 : Int) < (l0.length : Int) then (100 : Int) else (l0.length : Int)) = (K : Int) := by split <;> omega
  have hcut := fun u => run_cutTo (P := Try.prog) u stBytes A l0.length cap K (by omega)
  have hK6 : 6 ≤ l0.length → 6 ≤ K := by omega
  have hs0 := b0.cutTo hK1
  rw [Nat.mul_one] at hs0
  have hbv : (bv l0).take K = bv (l0.take K) := by simp [bv, List.map_take]
  rw [hbv] at hs0
  have htl : (l0.take K).length = K := by rw [List.length_take]; omega
  unfold maxLen at hmx
  have B0 := Lib.hid b0
  have C0 := Lib.hid c0
  have S0 := Lib.hid hs0
  have TL := Lib.hid htl
  have HK6 := Lib.hid hK6
  clear b0 c0 hK hbv hs0 htl hK6
  go_enter Try.func3, Try.ntmps3
  go_wp2_with (first
    | (at_builtin; refine wpList_app _ rfl stBytes (.tmp 8) (.tmp 13) rfl W.heap.size _ 0 [] rfl (World.ownsRow_lit W #[] 0 (Nat.le_refl _) (by decide) rfl) W.heap.size _ K (bv (l0.take K)) rfl (S0.out.alloc (Nat.le_refl _) _) (bv_one _) (by omega) (by simp) ?_; intro v1 w1 hown1 hg1 hat1 hbel1))
  have TL2 := TL.out
  have hown1' : w1.ownsRow W.heap.size 5 1 v1 (l0.take K).length (bv (l0.take K)) := by rw [TL2]; simpa using hown1
  have hB1 : Below W.heap.size W w1 := ((Below.refl W.heap.size W).alloc (Nat.le_refl _) (.cells #[] 5)).trans hbel1
  have O1 := Lib.hid (Sl.of_own hown1')
  have B1 := Lib.hid hB1
  have HL : Hid (∀ x ∈ l0.take K, x < 256) := fun x hx => C0.out x (List.mem_of_mem_take hx)
  have hy : sameB (mb a1) (mb a1) = true := sameB_yes rfl
  have HY := Lib.hid hy
  clear hown1 hg1 hat1 hbel1 hown1' hB1 TL2 hcut hy
  have HSL := Lib.hid b1
  have hR : ((a1 : Int) == (a1 : Int) % 281474976710656) = decide (a1 < 281474976710656) := by
    rw [Bool.eq_iff_iff]
    simp
    omega
  by_cases h6 : l0.length < 6
  · have h6' : (l0.take K).length < 6 := by rw [TL.out]; omega
    refine (mac_Of_short h6' O1.out).mono ?_
    rintro e w2 ⟨rfl, rfl⟩
    clear h6'
    go_wp2_with fail
    refine (told01 _).mono ?_
    rintro e w2 ⟨rfl, hb2⟩
    have B2 := Lib.hid (B1.out.trans (hb2.mono B1.out.size))
    clear hb2
    go_wp2_with fail
    refine (mac_Bytes a1 _).mono ?_
    rintro e w3 ⟨v3, rfl, ho3, hb3⟩
    have B3 := Lib.hid (B2.out.trans (hb3.mono B2.out.size))
    have O3 := Lib.hid (Sl.of_own ho3)
    clear hb3 ho3
    go_wp2_with fail
    refine (ref_Bytes a1 HSL.out _).mono ?_
    rintro e w4 ⟨v4, rfl, ho4, hb4⟩
    have B4 := Lib.hid (B3.out.trans (hb4.mono B3.out.size))
    have O4 := Lib.hid (Sl.of_own ho4)
    have O34 := Lib.hid (O3.out.below hb4)
    clear hb4 ho4
    go_wp2_with fail
    refine (ref_Same (l := mb a1) (m := mb a1) O34.out O4.out).mono ?_
    rw [HY.out]
    rintro e w5 ⟨rfl, n5, rfl⟩
    go_wp2_with fail
    refine (mac_Right a1 HSL.out _).mono ?_
    rintro e w5 ⟨rfl, rfl⟩
    go_wp2_with fail
    refine (ref_Low a1 _).mono ?_
    rintro e w5 ⟨rfl, rfl⟩
    go_wp2
    go_ret
    exact ⟨rfl, below_drewN B4.out _⟩
  · have h6' : 6 ≤ (l0.take K).length := by rw [TL.out]; exact HK6.out (by omega)
    have h6n : (6 : Int) ≤ (l0.length : Int) := by omega
    refine (mac_Of h6' HL.out O1.out).mono ?_
    rw [ofk_take (HK6.out (by omega))]
    rintro e w2 ⟨rfl, rfl⟩
    obtain ⟨N, hN⟩ : ∃ N, N = ofk l0 6 := ⟨_, rfl⟩
    have hmb : mb N = l0.take 6 := by rw [hN]; exact mb_ofk (by omega) C0.out
    have hNb : N < 281474976710656 := by rw [hN]; exact ofk_small C0.out (Nat.le_refl _)
    rw [← hN]
    have HN := Lib.hid hN
    have HMB := Lib.hid hmb
    have h6s := Lib.hid (show 6 ≤ l0.length by omega)
    clear h6' hN hmb
    go_wp2_with fail
    refine (told01 _).mono ?_
    rintro e w2 ⟨rfl, hb2⟩
    have B2 := Lib.hid (B1.out.trans (hb2.mono B1.out.size))
    have O12 := Lib.hid ((O1.out.below hb2).mono hb2.size)
    clear hb2
    go_wp2_with fail
    refine (mac_Bytes a1 _).mono ?_
    rintro e w3 ⟨v3, rfl, ho3, hb3⟩
    have B3 := Lib.hid (B2.out.trans (hb3.mono B2.out.size))
    have O3 := Lib.hid (Sl.of_own ho3)
    have O13 := Lib.hid ((O12.out.below hb3).mono hb3.size)
    clear hb3 ho3
    go_wp2_with fail
    refine (ref_Bytes a1 HSL.out _).mono ?_
    rintro e w4 ⟨v4, rfl, ho4, hb4⟩
    have B4 := Lib.hid (B3.out.trans (hb4.mono B3.out.size))
    have O4 := Lib.hid (Sl.of_own ho4)
    have O34 := Lib.hid (O3.out.below hb4)
    have O14 := Lib.hid ((O13.out.below hb4).mono hb4.size)
    clear hb4 ho4
    go_wp2_with fail
    refine (ref_Same (l := mb a1) (m := mb a1) O34.out O4.out).mono ?_
    rw [HY.out]
    rintro e w5 ⟨rfl, n5, rfl⟩
    go_wp2_with fail
    refine (mac_Right a1 HSL.out _).mono ?_
    rintro e w5 ⟨rfl, rfl⟩
    go_wp2_with fail
    refine (ref_Low a1 _).mono ?_
    rintro e w5 ⟨rfl, rfl⟩
    go_wp2
    have hcut6 := fun u => run_cutTo (P := Try.prog) u stBytes A l0.length cap 6 (by have := h6s.out; omega)
    have hcut6' : ∀ u, (Instr.slice 22 (.slice A l0.length cap) none (some (.int .i64 6)) none).run Try.prog u = .ok (.slice A 6 cap) u := hcut6
    have hcutK := fun u => run_cutTo (P := Try.prog) u stBytes A l0.length cap K (by have := hcap; omega)
    have B0' := Lib.hid (B0.out.below B4.out)
    have HS6 : sameB (mb N) (l0.take 6) = true := sameB_yes HMB.out
    have HSK : sameB (l0.take K) (l0.take K) = true := sameB_yes rfl
    have H6L : (l0.take 6).length = 6 := by rw [List.length_take]; have := h6s.out; omega
    have hb6 : (bv l0).take 6 = bv (l0.take 6) := by simp [bv, List.map_take]
    have hs6 := (B0'.out.cutTo (k := 6) h6s.out)
    rw [Nat.mul_one, hb6] at hs6
    have hs6' : Sl w4 W.heap.size 1 (.slice A 6 cap) (l0.take 6).length (bv (l0.take 6)) := by rw [H6L]; exact hs6
    have hsK : Sl w4 W.heap.size 1 (.slice A K cap) (l0.take K).length (bv (l0.take K)) := by rw [TL.out]; exact S0.out.below B4.out
    have HS6' := Lib.hid HS6
    have HSK' := Lib.hid HSK
    have S6 := Lib.hid hs6'
    have SK := Lib.hid hsK
    clear hcut6 HS6 HSK H6L hb6 hs6 hs6' hsK
    have B4d := Lib.hid (below_drewN B4.out n5)
    go_region_held3 (fun _ => True) (go_keep) (first
      | (go_at_call 22; refine (ref_Of h6s.out C0.out (B0'.out.drewN _)).mono ?_; rw [← HN.out]; rintro e w6 ⟨rfl, rfl⟩)
      | (go_at_call 18; refine (mac_Bytes N _).mono ?_; rintro e w7 ⟨v7, rfl, ho7, hb7⟩)
      | (go_at_call_of 17 v7; refine (ref_Same (l := mb N) (m := l0.take 6) (Sl.of_own ho7) (((S6.out.drewN _).mono B4d.out.size).below hb7)).mono ?_; rw [HS6'.out]; rintro e w8 ⟨rfl, n8, rfl⟩)
      | (go_at_call_of 17 v1; refine (ref_Same (l := l0.take K) (m := l0.take K) (((O14.out.drewN _).below hb7).drewN _) ((((SK.out.drewN _).mono B4d.out.size).below hb7).drewN _)).mono ?_; rw [HSK'.out]; rintro e w9 ⟨rfl, n9, rfl⟩))
    all_goals go_wp2
    all_goals go_ret
    all_goals exact ⟨rfl, below_drewN (B4d.out.drew.trans (hb7.mono B4d.out.size)) _⟩

/-- What the walk gives, for every argument: the row's own words. -/
theorem contract (H : Type) (enc : TypeId × Value → H) (W : World) (base : Nat) (args : Array Value) (ds gs : List (DataW H)) (before : List MemPlace)
    (hval : ∀ (j : Nat) t v, Try.f3.params[j]? = some t → args[j]? = some v → Value.okWide Try.prog W .any base t v)
    (hW : DataW.Whole enc Try.prog Try.f3.params.toList Rows.macBytesSpec.vars false W args.toList ds gs before) :
    Calls Try.prog 3 args W fun e W' => ∃ v, e = .returned v ∧ Rows.macBytesSpec.post enc Try.prog Try.f3 false true false false W args v W' := by
  have hW' := hW
  obtain ⟨p, q, hA0, hV, rfl, hfz, hnd⟩ := hW
  have hA : DataW.TrodAll enc Try.prog W 0 (fun _ => true) true Try.f3.params.toList args.toList ds p := hA0
  rw [Try.params3] at hA hval
  obtain ⟨v0, vs0, d0, ds0, p0, q0, hargs, rfl, rfl, h0, r0⟩ := trodAll_cons hA
  obtain ⟨v1, vs1, d1, ds1, p1, q1, rfl, rfl, rfl, h1, r1⟩ := trodAll_cons r0
  obtain ⟨rfl, rfl, rfl⟩ := trodAll_nil r1
  obtain rfl : args = #[v0, v1] := by cases args; simp_all
  obtain ⟨l0, b0, c0⟩ := open_bytes Try.underlying22 Try.underlying5 (by kernel_rfl) (hval 0 22 v0 rfl rfl) h0
  obtain ⟨a1, rfl, b1⟩ := open_u64 Try.underlying23 (hval 1 23 v1 rfl rfl) h1
  refine (walk W v0 l0 b0 c0 a1 b1).mono fun e W' ⟨he, hb⟩ => ?_
  subst he
  exact close_true (by kernel_rfl) Try.underlying4 (by kernel_rfl) (by kernel_rfl) rfl rfl hW' hb

set_option maxRecDepth 100000 in
theorem lifted (os : Os) (started : os.Started) (H : Type) (enc : TypeId × Value → H) :
    ReturnsInHanded {} Try.checked os 3 .any (Rows.macBytesSpec.pre6 enc Try.prog Try.f3 Rows.macBytesRow.domain false) (Rows.macBytesSpec.post enc Try.prog Try.f3 false true false false) := by
  refine returnsInHanded_of_change (C := Try.checked) own started (by kernel_rfl) Try.func3
    (ChangeSpec.witness6 (enc := enc) (C := Try.checked) false ⟨#[], #[.slice none 0 0, .int .u64 0], []⟩ 8 (by kernel_rfl) (by kernel_rfl) (by kernel_rfl) (by kernel_rfl)) ?_
  intro W base args ds gs before hval hW _ _
  exact contract H enc W base args ds gs before hval hW

theorem proved : Rows.MacBytesSaid :=
  OpenClaim.holds_of_wide 3 Try.f3 rfl rfl rfl rfl rfl rfl rfl ⟨rfl, rfl, rfl, rfl, rfl⟩ rfl rfl rfl rfl rfl (by kernel_rfl) Try.func3 (by kernel_rfl)
    (of_decide_eq_true (by kernel_rfl)) (by unfold Func.isWrapper; first | (rw [if_pos (by decide +kernel)]; kernel_rfl) | (rw [if_neg (by decide +kernel)]; exact ⟨rfl, rfl⟩))
    (fun os started H enc _ => lifted os started H enc)
#print axioms proved
end Go.Proofs.Ytkfgnbplomcjfaa.macBytes
