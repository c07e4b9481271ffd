/-
  What is stored in one cell, and who takes one lock, changes no other one. No condition.
-/
import Derived.Test.YthamjkccljhhcabRows
import Derived.Test.YthamjkccljhhcabMemO
import Derived.WalkKit
import Derived.ProofKit
import Derived.OpenShut
namespace Go.Proofs.Ythamjkccljhhcab.memApart
open Go.ChangeShapes Go.WideShapes Go.ChangeAt Go.RowKit
open Go.ChangeMaps (open_string)
set_option linter.unusedVariables false

theorem own : ownKnob Try.prog.godebug = none := by kernel_rfl

set_option maxHeartbeats 1600000 in
theorem walk (W : World) (a0 : Value) (b0 : Ops6 W a0) (a1 : Int) (b1 : -9223372036854775808 ≤ a1 ∧ a1 ≤ 9223372036854775807) :
    Calls Try.prog 6 #[a0, .int .i64 a1] W (Says (.bool true) W) := by
  obtain ⟨A, n, cap, rfl, hn, hcap, HOPS⟩ := b0
  unfold maxLen at hcap
  obtain ⟨N, hN⟩ : ∃ N, N = min n 200 := ⟨_, rfl⟩
  have hN0 : N ≤ n := by omega
  have hN1 : N ≤ 200 := by omega
  have HN := Lib.hid hN
  have HO := Lib.hid HOPS
  clear HOPS hN
  obtain ⟨q, hq4, hqw⟩ := mod_u64 a1 4 (by omega) (by omega)
  have hqw' : wrap64 ((IntKind.u64.wrap a1).tmod 4) = (q : Int) := hqw
  clear hqw b1
  obtain ⟨s1, hs1⟩ : ∃ s1, s1 = storeS (newS 6 4) (q : Int) 77 := ⟨_, rfl⟩
  obtain ⟨s2, hs2⟩ : ∃ s2, s2 = takeS s1 (q : Int) 9 := ⟨_, rfl⟩
  have hhc : hasC (newS 6 4) (q : Int) = true := hasC_iff.2 ⟨by omega, by show (q : Int) < 6; omega⟩
  have e1 : s1 = putC (tickS (newS 6 4)) q 77 := by rw [hs1]; unfold storeS; rw [if_pos hhc]; rfl
  have hok : okWho s1 (q : Int) 9 = true := okWho_iff.2 ⟨⟨by omega, by rw [e1]; show (q : Int) < 4; omega⟩, by omega⟩
  have hh1 : s1.h q = -1 := by rw [e1]; rfl
  have e2 : s2 = putL (tickS s1) q 9 := by rw [hs2]; unfold takeS; rw [if_pos hok, Int.toNat_natCast, if_pos hh1]
  have hv : takeB s1 (q : Int) 9 = true := by unfold takeB; rw [hok, Int.toNat_natCast, hh1]; rfl
  have ht1 : s1.t = 1 := by rw [e1]; rfl
  have ht2 : s2.t = 2 := by rw [e2]; show s1.t + 1 = 2; omega
  have hc2 : s2.c q = 77 := by rw [e2, e1]; show (if q = q then (77 : Int) else 0) = 77; rw [if_pos rfl]
  have hl2 : s2.h q = 9 := by rw [e2]; show (if q = q then (9 : Int) else _) = 9; rw [if_pos rfl]
  have hC2 : s2.C = 6 ∧ s2.L = 4 := by rw [e2, e1]; exact ⟨rfl, rfl⟩
  have HS1 := Lib.hid hs1
  have HS2 := Lib.hid hs2
  have HT1 := Lib.hid ht1
  have HV := Lib.hid hv
  have H0 := Lib.hid (And.intro hC2 (And.intro hc2 (And.intro hl2 ht2)))
  clear hs1 hs2 hhc e1 hok hh1 e2 hv ht1 ht2 hc2 hl2 hC2
  go_enter Try.func6, Try.ntmps6
  go_wp2_with fail
  refine (mem_New 6 4 (by omega) (by omega) _).mono ?_
  rintro e w1 ⟨b, rfl, hm, hb⟩
  have M1 := Lib.hid hm
  have B1 := Lib.hid hb
  clear hm hb
  go_wp2_with fail
  refine (told06 _).mono ?_
  rintro e w2 ⟨rfl, hb⟩
  have B2 := Lib.hid (B1.out.trans (hb.mono B1.out.size))
  have M2 := Lib.hid (M1.out.below hb)
  clear hb
  go_wp2_with fail
  refine (mem_Store (q : Int) 77 M2.out (by show (0 : Int) ≤ _; omega)).mono ?_
  rintro e w3 ⟨rfl, hm, ht⟩
  have hm : MemAt w3 62 W.heap.size b s1 := by rw [HS1.out]; exact hm
  have M3 := Lib.hid hm
  have B3 := Lib.hid (ht.below B2.out (Nat.le_refl _) B2.out.size)
  clear hm ht
  go_wp2_with fail
  refine (mem_Take (q : Int) 9 M3.out (by have := HT1.out; omega)).mono ?_
  rintro e w4 ⟨rfl, hm, ht⟩
  have hm : MemAt w4 62 W.heap.size b s2 := by rw [HS2.out]; exact hm
  have M4 := Lib.hid hm
  have B4 := Lib.hid (ht.below B3.out (Nat.le_refl _) B3.out.size)
  clear hm ht HS1 HS2 HT1 HV M1 M2 M3 B1 B2 B3
  simp only [hqw']
  clear hqw'
  go_wp2
  go_loopw [8] (fun i wr => ∃ k : Nat, k ≤ N ∧ i = .int .i64 k ∧ ∃ s : MemS, Hid (MemAt wr 62 W.heap.size b s ∧ (s.C = 6 ∧ s.L = 4) ∧ s.c q = 77 ∧ s.h q = 9 ∧ s.t ≤ 2 + (k : Int)) ∧ Hid (Below W.heap.size W wr)) (fun i _ => N - (intOf i).toNat)
  case atStart => exact ⟨0, by omega, rfl, s2, ⟨M4.out, H0.out.1, H0.out.2.1, H0.out.2.2.1, by have := H0.out.2.2.2; omega⟩, B4.out⟩
  case round =>
    obtain ⟨k, hk, rfl, s, HM, HBW⟩ := hrel
    have hk0 : (0 : Int) ≤ (k : Int) := Int.natCast_nonneg _
    clear H0 M4 B4
    by_cases hlt : k < N
    · have hd1 : decide (k < n) = true := by simp; omega
      have hd3 : (k : Int) < 200 := by omega
      have hd4 : (k : Int) < (n : Int) := by omega
      obtain ⟨b1, off, rfl, h3, hcell⟩ := HO.out (by omega)
      obtain ⟨kd, a, who, u, c0, c1, c2, c3⟩ := hcell k (by omega)
      have c0 := (HBW.out.cell (p := ⟨b1, off + k * 4, none⟩) h3).trans c0
      have c1 := (HBW.out.cell (p := ⟨b1, off + k * 4 + 1, none⟩) h3).trans c1
      have c2 := (HBW.out.cell (p := ⟨b1, off + k * 4 + 2, none⟩) h3).trans c2
      have c3 := (HBW.out.cell (p := ⟨b1, off + k * 4 + 3, none⟩) h3).trans c3
      obtain ⟨kk, hk6, hkw⟩ := mod6 kd
      have HKW := Lib.hid hkw
      have hz := HBW.out.size
      clear hcell hkw HO
      obtain ⟨w0, hw0⟩ : ∃ w0, w0 = wr.alloc (.cells #[.int .i64 kd, .int .i64 a, .int .i64 who, .int .u64 u] 34) := ⟨_, rfl⟩
      by_cases ha : a = (q : Int)
      · have hne : (a != (q : Int)) = false := by simp [ha]
        have HB2 := Lib.hid (HBW.out.alloc hz (.cells #[.int .i64 kd, .int .i64 a, .int .i64 who, .int .u64 u] 34))
        have HM2 := Lib.hid (HM.out.1.alloc (.cells #[.int .i64 kd, .int .i64 a, .int .i64 who, .int .u64 u] 34))
        have HM3 := Lib.hid HM.out.2
        clear ha HM HBW hw0
        go_wp2
        go_roundw
        case rel => exact ⟨k + 1, by omega, by go_num, s, ⟨HM2.out, HM3.out.1, HM3.out.2.1, HM3.out.2.2.1, by have := HM3.out.2.2.2; omega⟩, HB2.out⟩
        case measure => simp [intOf]; omega
      · have hne : (a != (q : Int)) = true := by simp [ha]
        have HB2 := Lib.hid (HBW.out.alloc hz (.cells #[.int .i64 kd, .int .i64 a, .int .i64 who, .int .u64 u] 34))
        have HM2 := Lib.hid (HM.out.1.alloc (.cells #[.int .i64 kd, .int .i64 a, .int .i64 who, .int .u64 u] 34))
        have HM3 := Lib.hid HM.out.2
        have HE := Lib.hid (opS_else kk a who u s q ha)
        have HCL := Lib.hid (opS_CL kk a who u s)
        have HTT := Lib.hid (opS_t kk a who u s)
        clear ha HM HBW hw0
        go_wp2_with fail
        refine (law6_do kd a who u kk hk6 HKW.out HM2.out (by have := HM3.out.2.2.2; omega)).mono ?_
        rintro e w3 ⟨rfl, hm, ht⟩
        have HM4 := Lib.hid hm
        have HB4 := Lib.hid (ht.below HB2.out (Nat.le_refl _) HB2.out.size)
        clear hm ht c0 c1 c2 c3
        go_wp2
        go_roundw
        case rel => exact ⟨k + 1, by omega, by go_num, opS kk a who u s, ⟨HM4.out, ⟨HCL.out.1.trans HM3.out.1.1, HCL.out.2.trans HM3.out.1.2⟩, HE.out.1.trans HM3.out.2.1, HE.out.2.trans HM3.out.2.2.1, by have := HM3.out.2.2.2; have := HTT.out; omega⟩, HB4.out⟩
        case measure => simp [intOf]; omega
    · have : k = N := by omega
      subst this
      rcases Nat.lt_or_ge k n with h1 | h1
      · have hd1 : decide (k < n) = true := by simpa using h1
        have hd2 : decide ((k : Int) < 200) = false := by have := HN.out; simp; omega
        clear h1
        have HP := Lib.hid (mem_Peek (q : Int) HM.out.1)
        have HH := Lib.hid (mem_Holder (q : Int) HM.out.1)
        have hp : peekS s (q : Int) = 77 := by unfold peekS; rw [if_pos (hasC_iff.2 ⟨by omega, by have := HM.out.2.1.1; omega⟩)]; exact HM.out.2.2.1
        have hh : holdS s (q : Int) = 9 := by unfold holdS; rw [if_pos (hasL_iff.2 ⟨by omega, by have := HM.out.2.1.2; omega⟩)]; exact HM.out.2.2.2.1
        rw [hp] at HP
        rw [hh] at HH
        clear hp hh HM
        go_wp2_with fail
        refine (HP.out).mono ?_
        rintro e w3 ⟨rfl, rfl⟩
        go_wp2_with fail
        refine (HH.out).mono ?_
        rintro e w3 ⟨rfl, rfl⟩
        go_wp2
        go_ret
        exact ⟨by simp, HBW.out⟩
      · have hd1 : decide (k < n) = false := by simpa using h1
        clear h1
        have HP := Lib.hid (mem_Peek (q : Int) HM.out.1)
        have HH := Lib.hid (mem_Holder (q : Int) HM.out.1)
        have hp : peekS s (q : Int) = 77 := by unfold peekS; rw [if_pos (hasC_iff.2 ⟨by omega, by have := HM.out.2.1.1; omega⟩)]; exact HM.out.2.2.1
        have hh : holdS s (q : Int) = 9 := by unfold holdS; rw [if_pos (hasL_iff.2 ⟨by omega, by have := HM.out.2.1.2; omega⟩)]; exact HM.out.2.2.2.1
        rw [hp] at HP
        rw [hh] at HH
        clear hp hh HM
        go_wp2_with fail
        refine (HP.out).mono ?_
        rintro e w3 ⟨rfl, rfl⟩
        go_wp2_with fail
        refine (HH.out).mono ?_
        rintro e w3 ⟨rfl, rfl⟩
        go_wp2
        go_ret
        exact ⟨by simp, HBW.out⟩

set_option maxRecDepth 100000 in
/-- What the walk gives, for every argument: the row's own words. -/
theorem contract (H : Type) (enc : TypeId × Value → H) (W : World) (base : Nat) (args : Array Value) (ds gs : List (DataW H)) (before : List MemPlace)
    (hval : ∀ (j : Nat) t v, Try.f6.params[j]? = some t → args[j]? = some v → Value.okWide Try.prog W .any base t v)
    (hW : DataW.Whole enc Try.prog Try.f6.params.toList Rows.memApartSpec.vars false W args.toList ds gs before) :
    Calls Try.prog 6 args W fun e W' => ∃ v, e = .returned v ∧ Rows.memApartSpec.post enc Try.prog Try.f6 false true false false W args v W' := by
  have hW' := hW
  obtain ⟨p, q, hA0, hV, rfl, hfz, hnd⟩ := hW
  have hA : DataW.TrodAll enc Try.prog W 0 (fun _ => true) true Try.f6.params.toList args.toList ds p := hA0
  rw [Try.params6] at hA hval
  obtain ⟨v0, vs0, d0, ds0, p0, q0, hargs, rfl, rfl, h0, r0⟩ := trodAll_cons hA
  obtain ⟨v1, vs1, d1, ds1, p1, q1, rfl, rfl, rfl, h1, r1⟩ := trodAll_cons r0
  obtain ⟨rfl, rfl, rfl⟩ := trodAll_nil r1
  obtain rfl : args = #[v0, v1] := by cases args; simp_all
  have b0 := open_ops6 Try.underlying22 Try.underlying34 (by kernel_rfl) (by kernel_rfl) (by kernel_rfl) (by kernel_rfl) (by kernel_rfl) (by kernel_rfl) (hval 0 22 v0 rfl rfl) h0
  obtain ⟨a1, rfl, b1⟩ := open_i64 Try.underlying3 (hval 1 3 v1 rfl rfl) h1
  refine (walk W v0 b0 a1 b1).mono fun e W' ⟨he, hb⟩ => ?_
  subst he
  exact close_true (by kernel_rfl) Try.underlying4 (by kernel_rfl) (by kernel_rfl) rfl rfl hW' hb

set_option maxRecDepth 100000 in
theorem lifted (os : Os) (started : os.Started) (H : Type) (enc : TypeId × Value → H) :
    ReturnsInHanded {} Try.checked os 6 .any (Rows.memApartSpec.pre6 enc Try.prog Try.f6 Rows.memApartRow.domain false) (Rows.memApartSpec.post enc Try.prog Try.f6 false true false false) := by
  refine returnsInHanded_of_change (C := Try.checked) own started (by kernel_rfl) Try.func6
    (ChangeSpec.witness6 (enc := enc) (C := Try.checked) false ⟨#[], #[.slice none 0 0, .int .i64 0], []⟩ 8 (by kernel_rfl) (by kernel_rfl) (by kernel_rfl) (by kernel_rfl)) ?_
  intro W base args ds gs before hval hW _ _
  exact contract H enc W base args ds gs before hval hW

theorem proved : Rows.MemApartSaid :=
  OpenClaim.holds_of_wide 6 Try.f6 rfl rfl rfl rfl rfl rfl rfl ⟨rfl, rfl, rfl, rfl, rfl⟩ rfl rfl rfl rfl rfl (by kernel_rfl) Try.func6 (by kernel_rfl)
    (of_decide_eq_true (by kernel_rfl)) (by unfold Func.isWrapper; first | (rw [if_pos (by decide +kernel)]; kernel_rfl) | (rw [if_neg (by decide +kernel)]; exact ⟨rfl, rfl⟩))
    (fun os started H enc _ => lifted os started H enc)
#print axioms proved
end Go.Proofs.Ythamjkccljhhcab.memApart
