/-
  A tag is four bytes more, where there was none, and four less, where there was one, but for what fills up. No condition.
-/
import Derived.Test.YtkfgnbplomcjfabRows
import Derived.Test.YtkfgnbplomcjfabFrameT
import Derived.Test.YtkfgnbplomcjfabFrameV
import Derived.Test.YtkfgnbplomcjfabFrameE
import Derived.Deep.RegionHeld3
import Derived.WalkKit
import Derived.ProofKit
import Derived.OpenShut
namespace Go.Proofs.Ytkfgnbplomcjfab.framePairs
open Go.ChangeShapes Go.WideShapes Go.ChangeAt Go.RowKit
open Go.ChangeMaps (open_string)
set_option linter.unusedVariables false

theorem own : ownKnob Try.prog.godebug = none := by kernel_rfl

set_option maxHeartbeats 1600000 in
theorem walk (W : World) (a0 : Value) (l0 : List Nat) (b0 : Sl W W.heap.size 1 a0 l0.length (bv l0)) (c0 : ∀ x ∈ l0, x < 256) (a1 : Int) (b1 : -9223372036854775808 ≤ a1 ∧ a1 ≤ 9223372036854775807) :
    Calls Try.prog 3 #[a0, .int .i64 a1] W (Says (.bool true) W) := by
  obtain ⟨A, cap, hv, hcap, hmx⟩ := b0.form
  subst hv
  obtain ⟨K, hK⟩ : ∃ K, K = min l0.length 1600 := ⟨_, rfl⟩
  have hK1 : K ≤ l0.length := by omega
  have hK2 : K ≤ 1600 := by omega
  have hif : (if (1600 : Int) < (l0.length : Int) then (1600 : Int) else (l0.length : Int)) = (K : Int) := by split <;> omega
  have hcut := fun u => run_cutTo (P := Try.prog) u stBytes A l0.length cap K (by omega)
  have hs0 := b0.cutTo hK1
  rw [Nat.mul_one, bv_take] at hs0
  have htl : (l0.take K).length = K := by rw [List.length_take]; omega
  have hc : ∀ x ∈ l0.take K, x < 256 := mem_take c0 K
  generalize l0.take K = L at *
  unfold maxLen at hmx
  have S0 := Lib.hid hs0
  have TL := Lib.hid htl
  have HC := Lib.hid hc
  clear b0 c0 hK hs0 htl hc
  obtain ⟨k, hk, hw0⟩ := mod_u64 a1 4094 (by omega) (by omega)
  have hw : wrap64 ((IntKind.u64.wrap a1).tmod 4094) = (k : Int) := hw0
  have k0 : (0 : Int) ≤ (k : Int) := Int.natCast_nonneg _
  have k1 : (k : Int) ≤ 4093 := by omega
  clear hw0
  have hrp : ∀ v w B, Sl w B 1 v K (bv L) → B ≤ w.heap.size → Calls Try.prog 10 #[v] w (fun e w' => ParsesTo L w e w') := by
    intro v w B hv hB
    exact ref_Parse HC.out (by rw [TL.out]; exact hv) hB
  have RP := Lib.hid hrp
  clear hrp
  go_enter Try.func3, Try.ntmps3
  go_wp2_with fail
  refine (RP.out _ _ _ S0.out (Nat.le_refl _)).mono ?_
  intro e w1 h1
  by_cases he : errN L = 0
  · have htl' := TL.out
    cases ht : tagB L
    · have e1 : oErr L true (1 + (k : Int)) = 0 := oErr_tag he (by omega) (by omega)
      have n1 : (outR L true (1 + (k : Int))).length = K + 4 := by rw [out_tag_len he (by omega) (by omega), ht, htl']; simp
      have e2 : oErr L false (1 + (k : Int)) = 0 := oErr_plain he _
      have FO1 := Lib.hid fun v w B hv hB => frame_Out_good (t := true) (v := 1 + (k : Int)) HC.out TL.out (s := v) (w := w) (B := B) hv hB e1 n1
      have n2 : (outR L false (1 + (k : Int))).length = K := by rw [out_plain_same he _ ht, htl']
      have FO2 := Lib.hid fun v w B hv hB => frame_Out_good (t := false) (v := 1 + (k : Int)) HC.out TL.out (s := v) (w := w) (B := B) hv hB e2 n2
      rw [out_plain_same he _ ht] at FO2
      obtain ⟨fd, fs, fc, fy, A1, fn, p1, rfl, hb1⟩ := ParsesTo.okT h1 he ht
      have HB1 := Lib.hid hb1
      have hz1 := hb1.size
      clear h1 hb1 e1 n1 e2 n2 he ht htl'
      go_wp2_with fail
      refine (told02 _).mono ?_
      rintro e w2 ⟨rfl, hb2⟩
      have hz2 : w1.heap.size + 1 ≤ w2.heap.size := by simpa using hb2.size
      have hf2 : w2.cell? ⟨w1.heap.size, 2, none⟩ = some (.bool false) := by
        rw [(bcell hb2).1 w1.heap.size 2 (by simp)]
        simp [go_sem]
      have HB2 := Lib.hid (Below.trans (HB1.out.alloc HB1.out.size _) (hb2.mono (by simp; omega)))
      clear hb2
      go_wp2_with fail
      refine (FO1.out _ _ _ (S0.out.below HB2.out) HB2.out.size).mono ?_
      rintro e w3 ⟨A3, p3, rfl, ho3, hb3⟩
      have hz3 := hb3.size
      have hf3 := ((bcell hb3).1 w1.heap.size 2 (by omega)).trans hf2
      have HB3 := Lib.hid (HB2.out.trans (hb3.mono HB2.out.size))
      clear hb3 ho3 hf2
      go_wp2_with fail
      refine (FO2.out _ _ _ (S0.out.below HB3.out) HB3.out.size).mono ?_
      rintro e w4 ⟨A4, p4, rfl, ho4, hb4⟩
      have hf4 := ((bcell hb4).1 w1.heap.size 2 (by omega)).trans hf3
      have HB4 := Lib.hid (HB3.out.trans (hb4.mono HB3.out.size))
      have O4 := Lib.hid (Sl.of_own ho4)
      clear hb4 ho4 hf3
      go_wp2_with fail
      refine (ref_Same (l := L) (m := L) (by rw [TL.out]; exact O4.out) (by rw [TL.out]; exact S0.out.below HB4.out)).mono ?_
      rw [sameB_yes rfl]
      rintro e w5 ⟨rfl, n5, rfl⟩
      go_wp2
      go_ret
      exact ⟨by simp, below_drewN HB4.out _⟩
    · have e1 : oErr L true (1 + (k : Int)) = 0 := oErr_tag he (by omega) (by omega)
      have n1 : (outR L true (1 + (k : Int))).length = K := by rw [out_tag_len he (by omega) (by omega), ht, htl']; simp
      have e2 : oErr L false (1 + (k : Int)) = 0 := oErr_plain he _
      have FO1 := Lib.hid fun v w B hv hB => frame_Out_good (t := true) (v := 1 + (k : Int)) HC.out TL.out (s := v) (w := w) (B := B) hv hB e1 n1
      have n2 : (outR L false (1 + (k : Int))).length = max 60 (K - 4) := by rw [out_plain_len he _ ht, htl']
      obtain ⟨N, hN⟩ : ∃ N, N = max 60 (K - 4) := ⟨_, rfl⟩
      rw [← hN] at n2
      have HN := Lib.hid hN
      clear hN
      have FO2 := Lib.hid fun v w B hv hB => frame_Out_good (t := false) (v := 1 + (k : Int)) HC.out TL.out (s := v) (w := w) (B := B) hv hB e2 n2
      obtain ⟨fd, fs, fc, fy, A1, fn, p1, rfl, hb1⟩ := ParsesTo.okT h1 he ht
      have HB1 := Lib.hid hb1
      have hz1 := hb1.size
      clear h1 hb1 e1 n1 e2 n2 he ht htl'
      go_wp2_with fail
      refine (told02 _).mono ?_
      rintro e w2 ⟨rfl, hb2⟩
      have hz2 : w1.heap.size + 1 ≤ w2.heap.size := by simpa using hb2.size
      have hf2 : w2.cell? ⟨w1.heap.size, 2, none⟩ = some (.bool true) := by
        rw [(bcell hb2).1 w1.heap.size 2 (by simp)]
        simp [go_sem]
      have HB2 := Lib.hid (Below.trans (HB1.out.alloc HB1.out.size _) (hb2.mono (by simp; omega)))
      clear hb2
      go_wp2_with fail
      refine (FO1.out _ _ _ (S0.out.below HB2.out) HB2.out.size).mono ?_
      rintro e w3 ⟨A3, p3, rfl, ho3, hb3⟩
      have hz3 := hb3.size
      have hf3 := ((bcell hb3).1 w1.heap.size 2 (by omega)).trans hf2
      have HB3 := Lib.hid (HB2.out.trans (hb3.mono HB2.out.size))
      clear hb3 ho3 hf2
      go_wp2_with fail
      refine (FO2.out _ _ _ (S0.out.below HB3.out) HB3.out.size).mono ?_
      rintro e w4 ⟨A4, p4, rfl, ho4, hb4⟩
      have hf4 := ((bcell hb4).1 w1.heap.size 2 (by omega)).trans hf3
      have HB4 := Lib.hid (HB3.out.trans (hb4.mono HB3.out.size))
      have O4 := Lib.hid (Sl.of_own ho4)
      clear hb4 ho4 hf3
      go_wp2
      all_goals go_ret
      all_goals exact ⟨ret_bool (by have := HN.out; simp; omega), HB4.out⟩
  · obtain ⟨A1, p1, rfl, _, hb1⟩ := ParsesTo.err h1 he
    obtain ⟨E, hE⟩ : ∃ E, E = errN L := ⟨_, rfl⟩
    rw [← hE] at he ⊢
    have hE0 : ¬ (E : Int) = 0 := by omega
    have HB1 := Lib.hid hb1
    have hz1 := hb1.size
    clear h1 hb1 hE he
    go_wp2_with fail
    refine (told02 _).mono ?_
    rintro e w2 ⟨rfl, hb2⟩
    have HB2 := Lib.hid (Below.trans (HB1.out.alloc HB1.out.size _) (hb2.mono (by simp; omega)))
    clear hb2
    go_wp2_with fail
    refine (told02 _).mono ?_
    rintro e w3 ⟨rfl, hb3⟩
    have HB3 := Lib.hid (HB2.out.trans (hb3.mono HB2.out.size))
    clear hb3
    go_wp2
    go_ret
    exact ⟨rfl, HB3.out⟩

/-- What the walk gives, for every argument: the row's own words. -/
theorem contract (H : Type) (enc : TypeId × Value → H) (W : World) (base : Nat) (args : Array Value) (ds gs : List (DataW H)) (before : List MemPlace)
    (hval : ∀ (j : Nat) t v, Try.f3.params[j]? = some t → args[j]? = some v → Value.okWide Try.prog W .any base t v)
    (hW : DataW.Whole enc Try.prog Try.f3.params.toList Rows.framePairsSpec.vars false W args.toList ds gs before) :
    Calls Try.prog 3 args W fun e W' => ∃ v, e = .returned v ∧ Rows.framePairsSpec.post enc Try.prog Try.f3 false true false false W args v W' := by
  have hW' := hW
  obtain ⟨p, q, hA0, hV, rfl, hfz, hnd⟩ := hW
  have hA : DataW.TrodAll enc Try.prog W 0 (fun _ => true) true Try.f3.params.toList args.toList ds p := hA0
  rw [Try.params3] at hA hval
  obtain ⟨v0, vs0, d0, ds0, p0, q0, hargs, rfl, rfl, h0, r0⟩ := trodAll_cons hA
  obtain ⟨v1, vs1, d1, ds1, p1, q1, rfl, rfl, rfl, h1, r1⟩ := trodAll_cons r0
  obtain ⟨rfl, rfl, rfl⟩ := trodAll_nil r1
  obtain rfl : args = #[v0, v1] := by cases args; simp_all
  obtain ⟨l0, b0, c0⟩ := open_bytes Try.underlying22 Try.underlying5 (by kernel_rfl) (hval 0 22 v0 rfl rfl) h0
  obtain ⟨a1, rfl, b1⟩ := open_i64 Try.underlying3 (hval 1 3 v1 rfl rfl) h1
  refine (walk W v0 l0 b0 c0 a1 b1).mono fun e W' ⟨he, hb⟩ => ?_
  subst he
  exact close_true (by kernel_rfl) Try.underlying4 (by kernel_rfl) (by kernel_rfl) rfl rfl hW' hb

set_option maxRecDepth 100000 in
theorem lifted (os : Os) (started : os.Started) (H : Type) (enc : TypeId × Value → H) :
    ReturnsInHanded {} Try.checked os 3 .any (Rows.framePairsSpec.pre6 enc Try.prog Try.f3 Rows.framePairsRow.domain false) (Rows.framePairsSpec.post enc Try.prog Try.f3 false true false false) := by
  refine returnsInHanded_of_change (C := Try.checked) own started (by kernel_rfl) Try.func3
    (ChangeSpec.witness6 (enc := enc) (C := Try.checked) false ⟨#[], #[.slice none 0 0, .int .i64 0], []⟩ 8 (by kernel_rfl) (by kernel_rfl) (by kernel_rfl) (by kernel_rfl)) ?_
  intro W base args ds gs before hval hW _ _
  exact contract H enc W base args ds gs before hval hW

theorem proved : Rows.FramePairsSaid :=
  OpenClaim.holds_of_wide 3 Try.f3 rfl rfl rfl rfl rfl rfl rfl ⟨rfl, rfl, rfl, rfl, rfl⟩ rfl rfl rfl rfl rfl (by kernel_rfl) Try.func3 (by kernel_rfl)
    (of_decide_eq_true (by kernel_rfl)) (by unfold Func.isWrapper; first | (rw [if_pos (by decide +kernel)]; kernel_rfl) | (rw [if_neg (by decide +kernel)]; exact ⟨rfl, rfl⟩))
    (fun os started H enc _ => lifted os started H enc)
#print axioms proved
end Go.Proofs.Ytkfgnbplomcjfab.framePairs
