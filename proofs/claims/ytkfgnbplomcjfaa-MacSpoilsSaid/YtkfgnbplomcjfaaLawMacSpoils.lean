/-
  A text of an address with one byte changed is none's, or another address's, that is printed so; unchanged it is the address's. No condition.
-/
import Derived.Test.YtkfgnbplomcjfaaRows
import Derived.Test.YtkfgnbplomcjfaaMacTold
import Derived.Test.YtkfgnbplomcjfaaPlainText
import Derived.WalkKit
import Derived.ProofKit
import Derived.OpenShut
namespace Go.Proofs.Ytkfgnbplomcjfaa.macSpoils
open Go.ChangeShapes Go.WideShapes Go.ChangeAt Go.RowKit
open Go.ChangeMaps (open_string)
set_option linter.unusedVariables false

theorem own : ownKnob Try.prog.godebug = none := by kernel_rfl

set_option maxHeartbeats 1600000 in
theorem walk (W : World) (a0 : Nat) (b0 : a0 < 18446744073709551616) (a1 : Int) (b1 : -9223372036854775808 ≤ a1 ∧ a1 ≤ 9223372036854775807) (a2 : Nat) (b2 : a2 < 256) :
    Calls Try.prog 7 #[.int .u64 (a0 : Int), .int .i64 a1, .int .u8 (a2 : Int)] W (Says (.bool true) W) := by
  obtain ⟨s, hs⟩ : ∃ s, s = stB (texN a0) := ⟨_, rfl⟩
  have hs17 : s.size = 17 := by rw [hs, stB_size, texN_length]
  have HS := Lib.hid hs
  have HS17 := Lib.hid hs17
  have hsz : (s.size : Int) ≤ 17 := by omega
  have hsz' : 17 ≤ (s.size : Int) := by omega
  clear hs hs17
  go_enter Try.func7, Try.ntmps7
  go_wp2_with fail
  refine (ref_Text a0 b0 _).mono ?_
  rw [← HS.out]
  rintro e w1 ⟨rfl, hb1⟩
  have HB1 := Lib.hid hb1
  clear hb1
  go_wp2_with fail
  obtain ⟨k, hk, hkw⟩ := mod_u64 a1 17 (by omega) (by omega)
  have hkw' : wrap64 ((IntKind.u64.wrap a1).tmod 17) = (k : Int) := hkw
  rw [hkw']
  clear hkw hkw'
  have g0 : (0 : Int) ≤ (k : Int) := Int.natCast_nonneg _
  have g1 : (k : Int) ≤ 16 := by omega
  have g2 : (k : Int) ≤ (s.size : Int) := by omega
  have g3 : (k : Int) + 1 ≤ (s.size : Int) := by omega
  have g4 : (0 : Int) ≤ (k : Int) + 1 := by omega
  have hconv : (convert 22 9 (.slice (some ⟨w1.heap.size, 0, none⟩) 1 1)).run Try.prog (w1.alloc (.cells #[.int .u8 (a2 : Int)] 5)).drew = .ok (.string (stB [a2])) (w1.alloc (.cells #[.int .u8 (a2 : Int)] 5)).drew :=
    conv_bytes Try.underlying22 Try.underlying5 Try.underlying9 (l := [a2]) ((Sl.lit w1 #[.int .u8 (a2 : Int)] _ 1 rfl (by decide)).drew) (by simpa using b2) (by simp)
  have hw : IntKind.i64.wrap ((k : Int) + 1) = (k : Int) + 1 := IntWalk.i64_in _ (by omega)
  have htn : ((k : Int) + 1).toNat = k + 1 := by omega
  have z1 : (s.extract 0 k).size ≤ 17 := by have := HS17.out; rw [ByteArray.size_extract]; omega
  have z2 : (s.extract (k + 1) s.size).size ≤ 17 := by have := HS17.out; rw [ByteArray.size_extract]; omega
  have z3 := stB_size [a2]
  have e1 : s.extract 0 k ++ stB [a2] ++ s.extract (k + 1) s.size = stB ((texN a0).take k ++ [a2] ++ (texN a0).drop (k + 1)) := by
    rw [HS.out, stB_take _ _ (by rw [texN_length]; omega), stB_drop, stB_append, stB_append]
  obtain ⟨tl, htl⟩ : ∃ tl, tl = (texN a0).take k ++ [a2] ++ (texN a0).drop (k + 1) := ⟨_, rfl⟩
  rw [← htl] at e1
  have htlt : ∀ x ∈ tl, x < 256 := by
    have h0 := texK_lt a0 6
    rw [htl]
    intro x hx
    simp only [List.mem_append, List.mem_cons, List.not_mem_nil, or_false] at hx
    rcases hx with (hx | hx) | hx
    · exact h0 x (List.mem_of_mem_take hx)
    · omega
    · exact h0 x (List.mem_of_mem_drop hx)
  have HTL := Lib.hid htlt
  obtain ⟨t, ht⟩ : ∃ t, t = stB tl := ⟨_, rfl⟩
  rw [← ht] at e1
  have HT := Lib.hid ht
  have hst : sl t = tl := by rw [ht, sl_stB _ htlt]
  have hst2 : t = s ↔ tl = texN a0 := by
    rw [ht, HS.out]
    exact ⟨fun h => stB_inj htlt (texK_lt a0 6) h, fun h => by rw [h]⟩
  have HST := Lib.hid hst
  have HST2 := Lib.hid hst2
  clear htl htlt ht hst hst2
  have hb2 : Below W.heap.size W (w1.alloc (.cells #[.int .u8 (a2 : Int)] 5)).drew := (HB1.out.alloc HB1.out.size _).drew
  have HB2 := Lib.hid hb2
  clear hb2
  go_region
  all_goals
    clear e1 hconv z1 z2 z3 hw htn
    by_cases heq : tl = texN a0
    · have hts := HST2.out.2 heq
      have hp : parseN (sl t) = some (a0 % 281474976710656) := by rw [HST.out, heq]; exact parse_text a0
      have HP := Lib.hid hp
      clear hp heq
      subst hts
      go_wp2_with fail
      refine (mac_Parse _ _).mono ?_
      rw [HP.out]
      rintro e w2 ⟨rfl, rfl⟩
      go_wp2_with fail
      refine (told01 _).mono ?_
      rintro e w3 ⟨rfl, hb3⟩
      have HB3 := Lib.hid (HB2.out.trans (hb3.mono HB2.out.size))
      clear hb3
      go_wp2_with fail
      refine (ref_Low a0 _).mono ?_
      rintro e w4 ⟨rfl, rfl⟩
      go_wp2
      go_ret
      exact ⟨ret_bool (by simp), HB3.out⟩
    · have hne : ¬ t = s := fun h => heq (HST2.out.1 h)
      have hneb := str_ne hne
      cases hp : parseN (sl t) with
      | none =>
        have HP := Lib.hid hp
        clear hp heq hne
        go_wp2_with fail
        refine (mac_Parse _ _).mono ?_
        rw [HP.out]
        rintro e w2 ⟨rfl, rfl⟩
        go_wp2_with fail
        refine (told01 _).mono ?_
        rintro e w3 ⟨rfl, hb3⟩
        have HB3 := Lib.hid (HB2.out.trans (hb3.mono HB2.out.size))
        clear hb3
        go_wp2
        go_ret
        exact ⟨ret_bool (by simp), HB3.out⟩
      | some n =>
        obtain ⟨hx, hn⟩ := text_parse hp
        rw [HST.out] at hx
        have hs2 : stB (texN n) = t := by rw [hx, HT.out]
        have hnn : ((n : Int) != (a0 : Int) % 281474976710656) = true := by
          simp only [bne_iff_ne, ne_eq]
          intro h
          have : n = a0 % 281474976710656 := by omega
          subst this
          exact heq (by rw [← hx, texN_low])
        have HP := Lib.hid hp
        have HS2 := Lib.hid hs2
        clear hp heq hne hx hs2
        go_wp2_with fail
        refine (mac_Parse _ _).mono ?_
        rw [HP.out]
        rintro e w2 ⟨rfl, rfl⟩
        go_wp2_with fail
        refine (told01 _).mono ?_
        rintro e w3 ⟨rfl, hb3⟩
        have HB3 := Lib.hid (HB2.out.trans (hb3.mono HB2.out.size))
        clear hb3
        go_wp2_with fail
        refine (ref_Low a0 _).mono ?_
        rintro e w4 ⟨rfl, rfl⟩
        go_wp2_with fail
        refine (mac_Text n _).mono ?_
        rw [HS2.out]
        rintro e w5 ⟨rfl, hb5⟩
        have HB5 := Lib.hid (HB3.out.trans (hb5.mono HB3.out.size))
        clear hb5
        go_wp2
        go_ret
        exact ⟨ret_bool (by simp), HB5.out⟩

/-- What the walk gives, for every argument: the row's own words. -/
theorem contract (H : Type) (enc : TypeId × Value → H) (W : World) (base : Nat) (args : Array Value) (ds gs : List (DataW H)) (before : List MemPlace)
    (hval : ∀ (j : Nat) t v, Try.f7.params[j]? = some t → args[j]? = some v → Value.okWide Try.prog W .any base t v)
    (hW : DataW.Whole enc Try.prog Try.f7.params.toList Rows.macSpoilsSpec.vars false W args.toList ds gs before) :
    Calls Try.prog 7 args W fun e W' => ∃ v, e = .returned v ∧ Rows.macSpoilsSpec.post enc Try.prog Try.f7 false true false false W args v W' := by
  have hW' := hW
  obtain ⟨p, q, hA0, hV, rfl, hfz, hnd⟩ := hW
  have hA : DataW.TrodAll enc Try.prog W 0 (fun _ => true) true Try.f7.params.toList args.toList ds p := hA0
  rw [Try.params7] at hA hval
  obtain ⟨v0, vs0, d0, ds0, p0, q0, hargs, rfl, rfl, h0, r0⟩ := trodAll_cons hA
  obtain ⟨v1, vs1, d1, ds1, p1, q1, rfl, rfl, rfl, h1, r1⟩ := trodAll_cons r0
  obtain ⟨v2, vs2, d2, ds2, p2, q2, rfl, rfl, rfl, h2, r2⟩ := trodAll_cons r1
  obtain ⟨rfl, rfl, rfl⟩ := trodAll_nil r2
  obtain rfl : args = #[v0, v1, v2] := by cases args; simp_all
  obtain ⟨a0, rfl, b0⟩ := open_u64 Try.underlying23 (hval 0 23 v0 rfl rfl) h0
  obtain ⟨a1, rfl, b1⟩ := open_i64 Try.underlying3 (hval 1 3 v1 rfl rfl) h1
  obtain ⟨a2, rfl, b2⟩ := open_u8 Try.underlying5 (hval 2 5 v2 rfl rfl) h2
  refine (walk W a0 b0 a1 b1 a2 b2).mono fun e W' ⟨he, hb⟩ => ?_
  subst he
  exact close_true (by kernel_rfl) Try.underlying4 (by kernel_rfl) (by kernel_rfl) rfl rfl hW' hb

set_option maxRecDepth 100000 in
theorem lifted (os : Os) (started : os.Started) (H : Type) (enc : TypeId × Value → H) :
    ReturnsInHanded {} Try.checked os 7 .any (Rows.macSpoilsSpec.pre6 enc Try.prog Try.f7 Rows.macSpoilsRow.domain false) (Rows.macSpoilsSpec.post enc Try.prog Try.f7 false true false false) := by
  refine returnsInHanded_of_change (C := Try.checked) own started (by kernel_rfl) Try.func7
    (ChangeSpec.witness6 (enc := enc) (C := Try.checked) false ⟨#[], #[.int .u64 0, .int .i64 0, .int .u8 0], []⟩ 8 (by kernel_rfl) (by kernel_rfl) (by kernel_rfl) (by kernel_rfl)) ?_
  intro W base args ds gs before hval hW _ _
  exact contract H enc W base args ds gs before hval hW

theorem proved : Rows.MacSpoilsSaid :=
  OpenClaim.holds_of_wide 7 Try.f7 rfl rfl rfl rfl rfl rfl rfl ⟨rfl, rfl, rfl, rfl, rfl⟩ rfl rfl rfl rfl rfl (by kernel_rfl) Try.func7 (by kernel_rfl)
    (of_decide_eq_true (by kernel_rfl)) (by unfold Func.isWrapper; first | (rw [if_pos (by decide +kernel)]; kernel_rfl) | (rw [if_neg (by decide +kernel)]; exact ⟨rfl, rfl⟩))
    (fun os started H enc _ => lifted os started H enc)
#print axioms proved
end Go.Proofs.Ytkfgnbplomcjfaa.macSpoils
