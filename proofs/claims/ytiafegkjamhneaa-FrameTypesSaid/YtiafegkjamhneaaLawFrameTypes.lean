/-
  Of all types and counts of bytes: lengths that aren't, and numbers that are neither a length nor a type, are refused, and all else is taken, and written so. No condition.
-/
import Derived.Test.YtiafegkjamhneaaRows
import Derived.Test.YtiafegkjamhneaaFrameZ
import Derived.WalkKit
import Derived.ProofKit
import Derived.OpenShut
namespace Go.Proofs.Ytiafegkjamhneaa.frameTypes
open Go.ChangeShapes Go.WideShapes Go.ChangeAt Go.RowKit
open Go.ChangeMaps (open_string)
set_option linter.unusedVariables false

theorem own : ownKnob Try.prog.godebug = none := by kernel_rfl

set_option maxHeartbeats 3200000 in
theorem walk (W : World) (a0 : Nat) (b0 : a0 < 65536) (a1 : Int) (b1 : -9223372036854775808 ≤ a1 ∧ a1 ≤ 9223372036854775807) :
    Calls Try.prog 7 #[.int .u16 (a0 : Int), .int .i64 a1] W (Says (.bool true) W) := by
  obtain ⟨k, hk0, hw0⟩ := mod_u64 a1 1501 (by omega) (by omega)
  have hw : wrap64 ((IntKind.u64.wrap a1).tmod 1501) = (k : Int) := hw0
  have hk : k ≤ 1500 := by omega
  obtain ⟨w1, hw1⟩ : ∃ w1, w1 = W.alloc (.cells (mkC (.int .u8 0) 1 k) 5) := ⟨_, rfl⟩
  have hmk := run_mkFull (P := Try.prog) W stBytes k (by omega)
  rw [← hw1] at hmk
  have s0 : Sl w1 (W.heap.size + 1) 1 (.slice (some ⟨W.heap.size, 0, none⟩) k k) k (bv (zl k)) := by
    unfold zl; rw [← bv_zeros, hw1]; exact Sl.mkFull_at rfl rfl (by simp [maxLen]; omega)
  have hsz : W.heap.size + 1 ≤ w1.heap.size := by rw [hw1]; simp
  have hB0 : Below W.heap.size W w1 := by rw [hw1]; exact (Below.refl _ _).alloc (Nat.le_refl _) _
  have hTo : ∀ W0, Sl W0 (W.heap.size + 1) 1 (.slice (some ⟨W.heap.size, 0, none⟩) k k) k (bv (zl k)) → W.heap.size + 1 ≤ W0.heap.size → Calls Try.prog 22 #[.agg #[.int .u64 2, .int .u64 4, .bool false, .int .u16 0, .int .u16 (a0 : Int), .slice (some ⟨W.heap.size, 0, none⟩) k k]] W0 (fun e w' => ∃ A c, e = .returned (.agg #[.int .u64 2, .int .u64 4, .bool false, .int .u16 0, .int .u16 (a0 : Int), .slice A k c]) ∧ Sl w' w'.heap.size 1 (.slice A k c) k (bv (zl k)) ∧ Below W0.heap.size W0 w') := by
    intro W0 h1 h2
    refine (law_To (f := tyF a0 k) (zl_len k) (by omega) h1 h2).mono fun e w' h => ?_
    obtain ⟨A, c, he, ho, hb⟩ := h
    exact ⟨A, c, he, Sl.of_own ho, hb⟩
  have hWr : ∀ A c W0 B, Sl W0 B 1 (.slice A k c) k (bv (zl k)) → B ≤ W0.heap.size → Calls Try.prog 21 #[.agg #[.int .u64 2, .int .u64 4, .bool false, .int .u16 0, .int .u16 (a0 : Int), .slice A k c]] W0 (fun e w' => ∃ A' c', e = .returned (.tuple #[.slice A' (wR (tyF a0 k)).length c', .int .i64 (wErr (tyF a0 k) : Nat)]) ∧ Sl w' w'.heap.size 1 (.slice A' (wR (tyF a0 k)).length c') (wR (tyF a0 k)).length (bv (wR (tyF a0 k))) ∧ Below W0.heap.size W0 w') := by
    intro A c W0 B h1 h2
    refine (frame_Write (f := tyF a0 k) (by show 2 < _; omega) (by show 4 < _; omega) (by show 0 < _; omega) b0 (zl_len k) (by omega) h1 h2).mono fun e w' h => ?_
    obtain ⟨A', c', he, ho, hb⟩ := h
    exact ⟨A', c', he, Sl.of_own ho, hb⟩
  clear hw0 hw1 hk0
  by_cases h1 : a0 = 33024
  · subst h1
    have he : wErr (tyF 33024 k) = 1 := tyF_1 rfl
    have hr : wR (tyF 33024 k) = [] := by unfold wR; rw [if_neg (by rw [he]; omega)]
    have hE : ((wErr (tyF 33024 k) : Nat) : Int) = 1 := by rw [he]; rfl
    rw [hE, hr] at hWr
    simp only [List.length_nil] at hWr
    clear he hr hE
    have HTO := Lib.hid hTo
    have HWR := Lib.hid hWr
    have S0 := Lib.hid s0
    have HB0 := Lib.hid hB0
    clear hTo hWr s0 hB0
    go_enter Try.func7, Try.ntmps7
    go_wp2_with fail
    refine (HTO.out _ (S0.out.alloc hsz _) (by simp; omega)).mono ?_
    rintro e w2 ⟨A2, c2, rfl, hs2, hb2⟩
    have HB2 := Lib.hid ((HB0.out.alloc (by omega) (.cells #[.int .u64 2, .int .u64 4, .bool false, .int .u16 0, .int .u16 33024, .slice (some ⟨W.heap.size, 0, none⟩) k k] 32)).trans (hb2.mono (by simp; omega)))
    have S2 := Lib.hid hs2
    clear hs2 hb2
    go_wp2_with fail
    refine (HWR.out _ _ _ _ S2.out (Nat.le_refl _)).mono ?_
    rintro e w3 ⟨A3, c3, rfl, hs3, hb3⟩
    have HB3 := Lib.hid (HB2.out.trans (hb3.mono HB2.out.size))
    have S3 := Lib.hid hs3
    clear hs3 hb3 hmk
    go_wp2_with fail
    refine (told02 _).mono ?_
    rintro e w4 ⟨rfl, hb4⟩
    have HB4 := Lib.hid (HB3.out.trans (hb4.mono HB3.out.size))
    clear hb4
    go_wp2
    go_ret
    exact ⟨by simp, HB4.out⟩
  · have hne : ¬ (a0 : Int) = 33024 := by omega
    cases hm : meetsB a0 k
    · have he : wErr (tyF a0 k) = 4 := by rw [tyF_rest h1 hk, hm]; rfl
      have hr : wR (tyF a0 k) = [] := by unfold wR; rw [if_neg (by rw [he]; omega)]
      have hE : ((wErr (tyF a0 k) : Nat) : Int) = 4 := by rw [he]; rfl
      rw [hE, hr] at hWr
      simp only [List.length_nil] at hWr
      clear hE
      have hm2 : (1500 < a0 ∧ a0 < 1536) ∨ (a0 ≤ 1500 ∧ k < a0) := by unfold meetsB at hm; simp at hm; omega
      clear he hr hm h1
      rcases hm2 with ⟨g1, g2⟩ | ⟨g1, g2⟩
      · have g1' : (1500 : Int) < (a0 : Int) := by omega
        have g2' : (a0 : Int) < 1536 := by omega
        clear g1 g2
        have z0 : (0 : Int) ≤ (a0 : Int) := by omega
        have z1 : (a0 : Int) ≤ 65535 := by omega
        generalize (a0 : Int) = z at *
        have HTO := Lib.hid hTo
        have HWR := Lib.hid hWr
        have S0 := Lib.hid s0
        have HB0 := Lib.hid hB0
        clear hTo hWr s0 hB0
        go_enter Try.func7, Try.ntmps7
        go_wp2_with fail
        refine (HTO.out _ (S0.out.alloc hsz _) (by simp; omega)).mono ?_
        rintro e w2 ⟨A2, c2, rfl, hs2, hb2⟩
        have HB2 := Lib.hid ((HB0.out.alloc (by omega) (.cells #[.int .u64 2, .int .u64 4, .bool false, .int .u16 0, .int .u16 z, .slice (some ⟨W.heap.size, 0, none⟩) k k] 32)).trans (hb2.mono (by simp; omega)))
        have S2 := Lib.hid hs2
        clear hs2 hb2
        go_wp2_with fail
        refine (HWR.out _ _ _ _ S2.out (Nat.le_refl _)).mono ?_
        rintro e w3 ⟨A3, c3, rfl, hs3, hb3⟩
        have HB3 := Lib.hid (HB2.out.trans (hb3.mono HB2.out.size))
        have S3 := Lib.hid hs3
        clear hs3 hb3 hmk
        go_wp2_with fail
        refine (told02 _).mono ?_
        rintro e w4 ⟨rfl, hb4⟩
        have HB4 := Lib.hid (HB3.out.trans (hb4.mono HB3.out.size))
        clear hb4
        go_wp2
        go_ret
        exact ⟨by simp, HB4.out⟩
      · have g1' : (a0 : Int) ≤ 1500 := by omega
        have g2' : (k : Int) < (a0 : Int) := by omega
        have g3' : ¬ (1500 : Int) < (a0 : Int) := by omega
        clear g1 g2
        have z0 : (0 : Int) ≤ (a0 : Int) := by omega
        have z1 : (a0 : Int) ≤ 65535 := by omega
        generalize (a0 : Int) = z at *
        have HTO := Lib.hid hTo
        have HWR := Lib.hid hWr
        have S0 := Lib.hid s0
        have HB0 := Lib.hid hB0
        clear hTo hWr s0 hB0
        go_enter Try.func7, Try.ntmps7
        go_wp2_with fail
        refine (HTO.out _ (S0.out.alloc hsz _) (by simp; omega)).mono ?_
        rintro e w2 ⟨A2, c2, rfl, hs2, hb2⟩
        have HB2 := Lib.hid ((HB0.out.alloc (by omega) (.cells #[.int .u64 2, .int .u64 4, .bool false, .int .u16 0, .int .u16 z, .slice (some ⟨W.heap.size, 0, none⟩) k k] 32)).trans (hb2.mono (by simp; omega)))
        have S2 := Lib.hid hs2
        clear hs2 hb2
        go_wp2_with fail
        refine (HWR.out _ _ _ _ S2.out (Nat.le_refl _)).mono ?_
        rintro e w3 ⟨A3, c3, rfl, hs3, hb3⟩
        have HB3 := Lib.hid (HB2.out.trans (hb3.mono HB2.out.size))
        have S3 := Lib.hid hs3
        clear hs3 hb3 hmk
        go_wp2_with fail
        refine (told02 _).mono ?_
        rintro e w4 ⟨rfl, hb4⟩
        have HB4 := Lib.hid (HB3.out.trans (hb4.mono HB3.out.size))
        clear hb4
        go_wp2
        go_ret
        exact ⟨by simp, HB4.out⟩
    · have he : wErr (tyF a0 k) = 0 := by rw [tyF_rest h1 hk, hm]; rfl
      have hr : wR (tyF a0 k) = padL (tyL a0 k) := by unfold wR; rw [if_pos he, tyB]
      obtain ⟨N, hN⟩ : ∃ N, N = max 60 (14 + k) := ⟨_, rfl⟩
      obtain ⟨m, hmm⟩ : ∃ m, m = max k 46 := ⟨_, rfl⟩
      have hE : ((wErr (tyF a0 k) : Nat) : Int) = 0 := by rw [he]; rfl
      rw [hE, hr, tyP_len, ← hN] at hWr
      clear hE
      have hP := fun v w B h h' => ty_parse b0 h1 hk hm hN hmm (v := v) (w := w) (B := B) h h'
      generalize padL (tyL a0 k) = R at *
      have i1 : (if ((k : Int)) < 46 then (46 : Int) else (k : Int)) = (m : Int) := by split <;> omega
      have i2 : (if (46 : Int) < (k : Int) then (k : Int) else (46 : Int)) = (m : Int) := by split <;> omega
      have i3 : (if ((14 + k : Int)) < 60 then (60 : Int) else (14 + k : Int)) = (N : Int) := by split <;> omega
      have i4 : (if (60 : Int) < (14 + k : Int) then (14 + k : Int) else (60 : Int)) = (N : Int) := by split <;> omega
      have HP := Lib.hid hP
      have hm2 : 1536 ≤ a0 ∨ (a0 ≤ 1500 ∧ a0 ≤ k) := by unfold meetsB at hm; simp at hm; omega
      have hNl : N ≤ 2000 := by omega
      have hml : m ≤ 2000 := by omega
      clear he hr hm hP hN hmm h1
      rcases hm2 with g1 | ⟨g1, g2⟩
      · have g1' : (1500 : Int) < (a0 : Int) := by omega
        have g2' : ¬ (a0 : Int) < 1536 := by omega
        have g3' : ¬ (a0 : Int) ≤ 1500 := by omega
        clear g1
        have z0 : (0 : Int) ≤ (a0 : Int) := by omega
        have z1 : (a0 : Int) ≤ 65535 := by omega
        generalize (a0 : Int) = z at *
        have HTO := Lib.hid hTo
        have HWR := Lib.hid hWr
        have S0 := Lib.hid s0
        have HB0 := Lib.hid hB0
        clear hTo hWr s0 hB0
        go_enter Try.func7, Try.ntmps7
        go_wp2_with fail
        refine (HTO.out _ (S0.out.alloc hsz _) (by simp; omega)).mono ?_
        rintro e w2 ⟨A2, c2, rfl, hs2, hb2⟩
        have HB2 := Lib.hid ((HB0.out.alloc (by omega) (.cells #[.int .u64 2, .int .u64 4, .bool false, .int .u16 0, .int .u16 z, .slice (some ⟨W.heap.size, 0, none⟩) k k] 32)).trans (hb2.mono (by simp; omega)))
        have S2 := Lib.hid hs2
        clear hs2 hb2
        go_wp2_with fail
        refine (HWR.out _ _ _ _ S2.out (Nat.le_refl _)).mono ?_
        rintro e w3 ⟨A3, c3, rfl, hs3, hb3⟩
        have HB3 := Lib.hid (HB2.out.trans (hb3.mono HB2.out.size))
        have S3 := Lib.hid hs3
        clear hs3 hb3 hmk
        go_wp2_with fail
        refine (HP.out _ _ _ S3.out (Nat.le_refl _)).mono ?_
        rintro e w5 ⟨d5, s5, t5, c5, A5, p5, rfl, hb5⟩
        have HB5 := Lib.hid (HB3.out.trans (hb5.mono HB3.out.size))
        have hz5 := HB5.out.size
        clear hb5
        go_wp2_with fail
        refine (told02 _).mono ?_
        rintro e w4 ⟨rfl, hb4⟩
        have u4 : w4.cell? ⟨w5.heap.size, 4, none⟩ = some (.int .u16 z) := by rw [(bcell hb4).1 w5.heap.size 4 (by simp)]; simp [go_sem]
        have u5 : w4.cell? ⟨w5.heap.size, 5, none⟩ = some (.slice A5 m p5) := by rw [(bcell hb4).1 w5.heap.size 5 (by simp)]; simp [go_sem]
        have HB4 := Lib.hid ((HB5.out.alloc hz5 _).trans (hb4.mono (by simp; omega)))
        clear hb4
        go_wp2
        go_ret
        exact ⟨by simp, HB4.out⟩
      · have g1' : (a0 : Int) ≤ 1500 := by omega
        have g2' : ¬ (k : Int) < (a0 : Int) := by omega
        have g3' : ¬ (1500 : Int) < (a0 : Int) := by omega
        clear g1 g2
        have z0 : (0 : Int) ≤ (a0 : Int) := by omega
        have z1 : (a0 : Int) ≤ 65535 := by omega
        generalize (a0 : Int) = z at *
        have HTO := Lib.hid hTo
        have HWR := Lib.hid hWr
        have S0 := Lib.hid s0
        have HB0 := Lib.hid hB0
        clear hTo hWr s0 hB0
        go_enter Try.func7, Try.ntmps7
        go_wp2_with fail
        refine (HTO.out _ (S0.out.alloc hsz _) (by simp; omega)).mono ?_
        rintro e w2 ⟨A2, c2, rfl, hs2, hb2⟩
        have HB2 := Lib.hid ((HB0.out.alloc (by omega) (.cells #[.int .u64 2, .int .u64 4, .bool false, .int .u16 0, .int .u16 z, .slice (some ⟨W.heap.size, 0, none⟩) k k] 32)).trans (hb2.mono (by simp; omega)))
        have S2 := Lib.hid hs2
        clear hs2 hb2
        go_wp2_with fail
        refine (HWR.out _ _ _ _ S2.out (Nat.le_refl _)).mono ?_
        rintro e w3 ⟨A3, c3, rfl, hs3, hb3⟩
        have HB3 := Lib.hid (HB2.out.trans (hb3.mono HB2.out.size))
        have S3 := Lib.hid hs3
        clear hs3 hb3 hmk
        go_wp2_with fail
        refine (HP.out _ _ _ S3.out (Nat.le_refl _)).mono ?_
        rintro e w5 ⟨d5, s5, t5, c5, A5, p5, rfl, hb5⟩
        have HB5 := Lib.hid (HB3.out.trans (hb5.mono HB3.out.size))
        have hz5 := HB5.out.size
        clear hb5
        go_wp2_with fail
        refine (told02 _).mono ?_
        rintro e w4 ⟨rfl, hb4⟩
        have u4 : w4.cell? ⟨w5.heap.size, 4, none⟩ = some (.int .u16 z) := by rw [(bcell hb4).1 w5.heap.size 4 (by simp)]; simp [go_sem]
        have u5 : w4.cell? ⟨w5.heap.size, 5, none⟩ = some (.slice A5 m p5) := by rw [(bcell hb4).1 w5.heap.size 5 (by simp)]; simp [go_sem]
        have HB4 := Lib.hid ((HB5.out.alloc hz5 _).trans (hb4.mono (by simp; omega)))
        clear hb4
        go_wp2
        go_ret
        exact ⟨by simp, HB4.out⟩

set_option maxRecDepth 100000 in
/-- What the walk gives, for every argument: the row's own words. -/
theorem contract (H : Type) (enc : TypeId × Value → H) (W : World) (base : Nat) (args : Array Value) (ds gs : List (DataW H)) (before : List MemPlace)
    (hval : ∀ (j : Nat) t v, Try.f7.params[j]? = some t → args[j]? = some v → Value.okWide Try.prog W .any base t v)
    (hW : DataW.Whole enc Try.prog Try.f7.params.toList Rows.frameTypesSpec.vars false W args.toList ds gs before) :
    Calls Try.prog 7 args W fun e W' => ∃ v, e = .returned v ∧ Rows.frameTypesSpec.post enc Try.prog Try.f7 false true false false W args v W' := by
  have hW' := hW
  obtain ⟨p, q, hA0, hV, rfl, hfz, hnd⟩ := hW
  have hA : DataW.TrodAll enc Try.prog W 0 (fun _ => true) true Try.f7.params.toList args.toList ds p := hA0
  rw [Try.params7] at hA hval
  obtain ⟨v0, vs0, d0, ds0, p0, q0, hargs, rfl, rfl, h0, r0⟩ := trodAll_cons hA
  obtain ⟨v1, vs1, d1, ds1, p1, q1, rfl, rfl, rfl, h1, r1⟩ := trodAll_cons r0
  obtain ⟨rfl, rfl, rfl⟩ := trodAll_nil r1
  obtain rfl : args = #[v0, v1] := by cases args; simp_all
  obtain ⟨a0, rfl, b0⟩ := open_u16 Try.underlying25 (hval 0 25 v0 rfl rfl) h0
  obtain ⟨a1, rfl, b1⟩ := open_i64 Try.underlying3 (hval 1 3 v1 rfl rfl) h1
  refine (walk W a0 b0 a1 b1).mono fun e W' ⟨he, hb⟩ => ?_
  subst he
  exact close_true (by kernel_rfl) Try.underlying4 (by kernel_rfl) (by kernel_rfl) rfl rfl hW' hb

set_option maxRecDepth 100000 in
theorem lifted (os : Os) (started : os.Started) (H : Type) (enc : TypeId × Value → H) :
    ReturnsInHanded {} Try.checked os 7 .any (Rows.frameTypesSpec.pre6 enc Try.prog Try.f7 Rows.frameTypesRow.domain false) (Rows.frameTypesSpec.post enc Try.prog Try.f7 false true false false) := by
  refine returnsInHanded_of_change (C := Try.checked) own started (by kernel_rfl) Try.func7
    (ChangeSpec.witness6 (enc := enc) (C := Try.checked) false ⟨#[], #[.int .u16 0, .int .i64 0], []⟩ 8 (by kernel_rfl) (by kernel_rfl) (by kernel_rfl) (by kernel_rfl)) ?_
  intro W base args ds gs before hval hW _ _
  exact contract H enc W base args ds gs before hval hW

theorem proved : Rows.FrameTypesSaid :=
  OpenClaim.holds_of_wide 7 Try.f7 rfl rfl rfl rfl rfl rfl rfl ⟨rfl, rfl, rfl, rfl, rfl⟩ rfl rfl rfl rfl rfl (by kernel_rfl) Try.func7 (by kernel_rfl)
    (of_decide_eq_true (by kernel_rfl)) (by unfold Func.isWrapper; first | (rw [if_pos (by decide +kernel)]; kernel_rfl) | (rw [if_neg (by decide +kernel)]; exact ⟨rfl, rfl⟩))
    (fun os started H enc _ => lifted os started H enc)
#print axioms proved
end Go.Proofs.Ytiafegkjamhneaa.frameTypes
