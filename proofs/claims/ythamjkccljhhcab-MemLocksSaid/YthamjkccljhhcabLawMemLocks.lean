/-
  Whoever takes and frees a lock, it is one's at most, and who took it holds it till the same one frees it. No condition.
-/
import Derived.Test.YthamjkccljhhcabRows
import Derived.Test.YthamjkccljhhcabMemO
import Derived.WalkKit
import Derived.ProofKit
import Derived.OpenShut
namespace Go.Proofs.Ythamjkccljhhcab.memLocks
open Go.ChangeShapes Go.WideShapes Go.ChangeAt Go.RowKit
open Go.ChangeMaps (open_string)
set_option linter.unusedVariables false

theorem own : ownKnob Try.prog.godebug = none := by kernel_rfl

set_option maxHeartbeats 1600000 in
theorem walk (W : World) (a0 : Value) (l0 : List Int) (b0 : Sl W W.heap.size 1 a0 l0.length (kv .i64 l0)) (c0 : ∀ x ∈ l0, -9223372036854775808 ≤ x ∧ x ≤ 9223372036854775807) (a1 : Value) (b1 : Bools W a1) :
    Calls Try.prog 5 #[a0, a1] W (Says (.bool true) W) := by
  obtain ⟨A, cap, hv, hcap, hmx⟩ := b0.form
  subst hv
  obtain ⟨A', n', cap', rfl, hn', hcap', HBS⟩ := b1
  unfold maxLen at hmx hcap'
  obtain ⟨N, hN⟩ : ∃ N, N = min (min l0.length n') 400 := ⟨_, rfl⟩
  have hN0 : N ≤ l0.length := by omega
  have hN1 : N ≤ n' := by omega
  have hN2 : N ≤ 400 := by omega
  have HN := Lib.hid hN
  have S0 := Lib.hid b0
  have HB := Lib.hid HBS
  clear b0 c0 HBS hN
  go_enter Try.func5, Try.ntmps5
  go_wp2_with fail
  refine (mem_New 1 1 (by omega) (by omega) _).mono ?_
  rintro e w1 ⟨b, rfl, hm, hb⟩
  have M1 := Lib.hid hm
  have B1 := Lib.hid hb
  clear hm hb
  go_wp2_with fail
  refine (told06 _).mono ?_
  rintro e w2 ⟨rfl, hb⟩
  have B2 := Lib.hid (B1.out.trans (hb.mono B1.out.size))
  have M2 := Lib.hid (M1.out.below hb)
  clear hb
  go_wp2
  go_loopw [7, 8] (fun h i wr => ∃ k : Nat, k ≤ N ∧ i = .int .i64 k ∧ ∃ s : MemS, h = .int .i64 (s.h 0) ∧ Hid (MemAt wr 62 W.heap.size b s ∧ s.L = 1 ∧ s.t ≤ (k : Int)) ∧ Hid (Below W.heap.size W wr)) (fun _ i _ => N - (intOf i).toNat)
  case atStart => exact ⟨0, by omega, rfl, newS 1 1, rfl, ⟨M2.out, rfl, Int.le_refl _⟩, B2.out⟩
  case round =>
    obtain ⟨k, hk, rfl, s, rfl, HM, HBW⟩ := hrel
    have hk0 : (0 : Int) ≤ (k : Int) := Int.natCast_nonneg _
    clear B1 B2 M1 M2
    by_cases hlt : k < N
    · have hd1 : decide (k < l0.length) = true := by simp; omega
      have hd2 : decide (k < n') = true := by simp; omega
      have hd3 : (k : Int) < 400 := by omega
      have hd4 : (k : Int) < (l0.length : Int) := by omega
      have hd5 : (k : Int) < (n' : Int) := by omega
      obtain ⟨b1, off, cap1, hv, h1, h2, h3, hcell⟩ := S0.out.at_ (show 0 < l0.length by omega)
      injection hv with e1 _ e2
      subst e1 e2
      have hx := kv_getElem? .i64 l0 k (by omega)
      have hck := (HBW.out.cell (p := ⟨b1, off + k, none⟩) h3).trans ((hcell k (by omega)).trans hx)
      obtain ⟨b2, off2, rfl, h4, hbs⟩ := HB.out (by omega)
      obtain ⟨z, hz⟩ := hbs k (by omega)
      have hzk := (HBW.out.cell (p := ⟨b2, off2 + k, none⟩) h4).trans hz
      obtain ⟨q, hq5, hqw⟩ := mod_u64 (l0.getD k 0) 5 (by omega) (by omega)
      have hqw' : wrap64 ((IntKind.u64.wrap (l0.getD k 0)).tmod 5) = (q : Int) := hqw
      obtain ⟨hm, hL, ht⟩ := HM.out
      have HTK := Lib.hid (mem_Take 0 (q : Int) hm (by omega))
      have HFR := Lib.hid (mem_Free 0 (q : Int) hm (by omega))
      have hok : okWho s 0 (q : Int) = true := okWho_iff.2 ⟨⟨by omega, by omega⟩, by omega⟩
      have hhk := hm.choose_spec.choose_spec.hh 0
      have HL1 := Lib.hid hL
      have HT1 := Lib.hid ht
      clear hcell hx hz hbs hqw HB S0 hm hL ht HM
      generalize l0.getD k 0 = x at *
      cases z
      · by_cases hh : s.h 0 = -1
        · have hb1 : (s.h 0 == -1) = true := by simp [hh]
          have hv1 : takeB s 0 (q : Int) = true := by simp [takeB, hok, hh]
          have hs1 : takeS s 0 (q : Int) = putL (tickS s) 0 (q : Int) := by simp [takeS, hok, hh]
          rw [hv1, hs1] at HTK
          have HOLD := fun w' hm => mem_Holder (w := w') (lo := W.heap.size) (b := b) (s := putL (tickS s) 0 (q : Int)) 0 hm
          have hval : holdS (putL (tickS s) 0 (q : Int)) 0 = (q : Int) := by
            unfold holdS
            rw [if_pos (hasL_iff.2 ⟨by omega, by show (0 : Int) < (s.L : Int); have := HL1.out; omega⟩)]
            rfl
          rw [hval] at HOLD
          have HOLD := Lib.hid HOLD
          have hne : ((q : Int) != (q : Int)) = false := by simp
          clear hv1 hs1 hh hval hok HFR
          go_wp2_with fail
          refine (HTK.out).mono ?_
          rintro e w3 ⟨rfl, hm, ht⟩
          have HM3 := Lib.hid hm
          have HB3 := Lib.hid (ht.below HBW.out (Nat.le_refl _) HBW.out.size)
          clear hm ht HTK HBW hck hzk
          go_wp2_with fail
          refine (HOLD.out _ HM3.out).mono ?_
          rintro e w4 ⟨rfl, rfl⟩
          go_wp2
          go_roundw
          case rel => exact ⟨k + 1, by omega, by go_num, putL (tickS s) 0 (q : Int), rfl, ⟨HM3.out, HL1.out, by show s.t + 1 ≤ _; have := HT1.out; omega⟩, HB3.out⟩
          case measure => simp [intOf]; omega
        · have hb1 : (s.h 0 == -1) = false := by simp [hh]
          have hv1 : takeB s 0 (q : Int) = false := by simp [takeB, hok, hh]
          have hs1 : takeS s 0 (q : Int) = tickS s := by simp [takeS, hok, hh]
          rw [hv1, hs1] at HTK
          have HOLD := fun w' hm => mem_Holder (w := w') (lo := W.heap.size) (b := b) (s := tickS s) 0 hm
          have hval : holdS (tickS s) 0 = s.h 0 := by
            unfold holdS
            rw [if_pos (hasL_iff.2 ⟨by omega, by show (0 : Int) < (s.L : Int); have := HL1.out; omega⟩)]
            rfl
          rw [hval] at HOLD
          have HOLD := Lib.hid HOLD
          have hne : (s.h 0 != s.h 0) = false := by simp
          clear hv1 hs1 hh hval hok HFR
          go_wp2_with fail
          refine (HTK.out).mono ?_
          rintro e w3 ⟨rfl, hm, ht⟩
          have HM3 := Lib.hid hm
          have HB3 := Lib.hid (ht.below HBW.out (Nat.le_refl _) HBW.out.size)
          clear hm ht HTK HBW hck hzk
          go_wp2_with fail
          refine (HOLD.out _ HM3.out).mono ?_
          rintro e w4 ⟨rfl, rfl⟩
          go_wp2
          go_roundw
          case rel => exact ⟨k + 1, by omega, by go_num, tickS s, rfl, ⟨HM3.out, HL1.out, by show s.t + 1 ≤ _; have := HT1.out; omega⟩, HB3.out⟩
          case measure => simp [intOf]; omega
      · by_cases hh : s.h 0 = (q : Int)
        · have hb1 : (s.h 0 == (q : Int)) = true := by simp [hh]
          have hv1 : freeB s 0 (q : Int) = true := by simp [freeB, hok, hh]
          have hs1 : freeS s 0 (q : Int) = putL (tickS s) 0 (-1) := by simp [freeS, hok, hh]
          rw [hv1, hs1] at HFR
          have HOLD := fun w' hm => mem_Holder (w := w') (lo := W.heap.size) (b := b) (s := putL (tickS s) 0 (-1)) 0 hm
          have hval : holdS (putL (tickS s) 0 (-1)) 0 = (-1) := by
            unfold holdS
            rw [if_pos (hasL_iff.2 ⟨by omega, by show (0 : Int) < (s.L : Int); have := HL1.out; omega⟩)]
            rfl
          rw [hval] at HOLD
          have HOLD := Lib.hid HOLD
          have hne : ((-1) != (-1)) = false := by simp
          clear hv1 hs1 hh hval hok HTK
          go_wp2_with fail
          refine (HFR.out).mono ?_
          rintro e w3 ⟨rfl, hm, ht⟩
          have HM3 := Lib.hid hm
          have HB3 := Lib.hid (ht.below HBW.out (Nat.le_refl _) HBW.out.size)
          clear hm ht HFR HBW hck hzk
          go_wp2_with fail
          refine (HOLD.out _ HM3.out).mono ?_
          rintro e w4 ⟨rfl, rfl⟩
          go_wp2
          go_roundw
          case rel => exact ⟨k + 1, by omega, by go_num, putL (tickS s) 0 (-1), rfl, ⟨HM3.out, HL1.out, by show s.t + 1 ≤ _; have := HT1.out; omega⟩, HB3.out⟩
          case measure => simp [intOf]; omega
        · have hb1 : (s.h 0 == (q : Int)) = false := by simp [hh]
          have hv1 : freeB s 0 (q : Int) = false := by simp [freeB, hok, hh]
          have hs1 : freeS s 0 (q : Int) = tickS s := by simp [freeS, hok, hh]
          rw [hv1, hs1] at HFR
          have HOLD := fun w' hm => mem_Holder (w := w') (lo := W.heap.size) (b := b) (s := tickS s) 0 hm
          have hval : holdS (tickS s) 0 = s.h 0 := by
            unfold holdS
            rw [if_pos (hasL_iff.2 ⟨by omega, by show (0 : Int) < (s.L : Int); have := HL1.out; omega⟩)]
            rfl
          rw [hval] at HOLD
          have HOLD := Lib.hid HOLD
          have hne : (s.h 0 != s.h 0) = false := by simp
          clear hv1 hs1 hh hval hok HTK
          go_wp2_with fail
          refine (HFR.out).mono ?_
          rintro e w3 ⟨rfl, hm, ht⟩
          have HM3 := Lib.hid hm
          have HB3 := Lib.hid (ht.below HBW.out (Nat.le_refl _) HBW.out.size)
          clear hm ht HFR HBW hck hzk
          go_wp2_with fail
          refine (HOLD.out _ HM3.out).mono ?_
          rintro e w4 ⟨rfl, rfl⟩
          go_wp2
          go_roundw
          case rel => exact ⟨k + 1, by omega, by go_num, tickS s, rfl, ⟨HM3.out, HL1.out, by show s.t + 1 ≤ _; have := HT1.out; omega⟩, HB3.out⟩
          case measure => simp [intOf]; omega
    · have : k = N := by omega
      subst this
      clear HM
      rcases Nat.lt_or_ge k l0.length with h1 | h1
      · have hd1 : decide (k < l0.length) = true := by simpa using h1
        rcases Nat.lt_or_ge k n' with h2 | h2
        · have hd2 : decide (k < n') = true := by simpa using h2
          have hd3 : decide ((k : Int) < 400) = false := by have := HN.out; simp; omega
          clear h1 h2
          go_wp2
          go_ret
          exact ⟨rfl, HBW.out⟩
        · have hd2 : decide (k < n') = false := by simpa using h2
          clear h1 h2
          go_wp2
          go_ret
          exact ⟨rfl, HBW.out⟩
      · have hd1 : decide (k < l0.length) = false := by simpa using h1
        clear h1
        go_wp2
        go_ret
        exact ⟨rfl, HBW.out⟩

set_option maxRecDepth 100000 in
/-- What the walk gives, for every argument: the row's own words. -/
theorem contract (H : Type) (enc : TypeId × Value → H) (W : World) (base : Nat) (args : Array Value) (ds gs : List (DataW H)) (before : List MemPlace)
    (hval : ∀ (j : Nat) t v, Try.f5.params[j]? = some t → args[j]? = some v → Value.okWide Try.prog W .any base t v)
    (hW : DataW.Whole enc Try.prog Try.f5.params.toList Rows.memLocksSpec.vars false W args.toList ds gs before) :
    Calls Try.prog 5 args W fun e W' => ∃ v, e = .returned v ∧ Rows.memLocksSpec.post enc Try.prog Try.f5 false true false false W args v W' := by
  have hW' := hW
  obtain ⟨p, q, hA0, hV, rfl, hfz, hnd⟩ := hW
  have hA : DataW.TrodAll enc Try.prog W 0 (fun _ => true) true Try.f5.params.toList args.toList ds p := hA0
  rw [Try.params5] at hA hval
  obtain ⟨v0, vs0, d0, ds0, p0, q0, hargs, rfl, rfl, h0, r0⟩ := trodAll_cons hA
  obtain ⟨v1, vs1, d1, ds1, p1, q1, rfl, rfl, rfl, h1, r1⟩ := trodAll_cons r0
  obtain ⟨rfl, rfl, rfl⟩ := trodAll_nil r1
  obtain rfl : args = #[v0, v1] := by cases args; simp_all
  obtain ⟨l0, b0, c0⟩ := open_i64s Try.underlying37 Try.underlying3 (by kernel_rfl) (hval 0 37 v0 rfl rfl) h0
  have b1 := open_boolrow Try.underlying44 Try.underlying4 (by kernel_rfl) (hval 1 44 v1 rfl rfl) h1
  refine (walk W v0 l0 b0 c0 v1 b1).mono fun e W' ⟨he, hb⟩ => ?_
  subst he
  exact close_true (by kernel_rfl) Try.underlying4 (by kernel_rfl) (by kernel_rfl) rfl rfl hW' hb

set_option maxRecDepth 100000 in
theorem lifted (os : Os) (started : os.Started) (H : Type) (enc : TypeId × Value → H) :
    ReturnsInHanded {} Try.checked os 5 .any (Rows.memLocksSpec.pre6 enc Try.prog Try.f5 Rows.memLocksRow.domain false) (Rows.memLocksSpec.post enc Try.prog Try.f5 false true false false) := by
  refine returnsInHanded_of_change (C := Try.checked) own started (by kernel_rfl) Try.func5
    (ChangeSpec.witness6 (enc := enc) (C := Try.checked) false ⟨#[], #[.slice none 0 0, .slice none 0 0], []⟩ 8 (by kernel_rfl) (by kernel_rfl) (by kernel_rfl) (by kernel_rfl)) ?_
  intro W base args ds gs before hval hW _ _
  exact contract H enc W base args ds gs before hval hW

theorem proved : Rows.MemLocksSaid :=
  OpenClaim.holds_of_wide 5 Try.f5 rfl rfl rfl rfl rfl rfl rfl ⟨rfl, rfl, rfl, rfl, rfl⟩ rfl rfl rfl rfl rfl (by kernel_rfl) Try.func5 (by kernel_rfl)
    (of_decide_eq_true (by kernel_rfl)) (by unfold Func.isWrapper; first | (rw [if_pos (by decide +kernel)]; kernel_rfl) | (rw [if_neg (by decide +kernel)]; exact ⟨rfl, rfl⟩))
    (fun os started H enc _ => lifted os started H enc)
#print axioms proved
end Go.Proofs.Ythamjkccljhhcab.memLocks
