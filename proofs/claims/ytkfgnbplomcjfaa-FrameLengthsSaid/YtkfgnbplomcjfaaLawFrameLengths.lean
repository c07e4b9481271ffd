/-
  Frames of all lengths, with a tag and without, are taken just from 60 bytes to 1514, or 1518. No condition.
-/
import Derived.Test.YtkfgnbplomcjfaaRows
import Derived.Test.YtkfgnbplomcjfaaFrameT
import Derived.Test.YtkfgnbplomcjfaaFrameU
import Derived.Deep.RegionHeld3
import Derived.WalkKit
import Derived.ProofKit
import Derived.OpenShut
namespace Go.Proofs.Ytkfgnbplomcjfaa.frameLengths
open Go.ChangeShapes Go.WideShapes Go.ChangeAt Go.RowKit
open Go.ChangeMaps (open_string)
set_option linter.unusedVariables false

theorem own : ownKnob Try.prog.godebug = none := by kernel_rfl

set_option maxHeartbeats 1600000 in
theorem walk (W : World) (a0 : Int) (b0 : -9223372036854775808 ≤ a0 ∧ a0 ≤ 9223372036854775807) (a1 : Bool) :
    Calls Try.prog 13 #[.int .i64 a0, .bool a1] W (Says (.bool true) W) := by
  obtain ⟨k, hk, hw0⟩ := mod_u64 a0 1600 (by omega) (by omega)
  have hw : wrap64 ((IntKind.u64.wrap a0).tmod 1600) = (k : Int) := hw0
  obtain ⟨w1, hw1⟩ : ∃ w1, w1 = W.alloc (.cells (mkC (.int .u8 0) 1 k) 5) := ⟨_, rfl⟩
  have hmk := run_mkFull (P := Try.prog) W stBytes k (by omega)
  rw [← hw1] at hmk
  have s0 : Sl w1 (W.heap.size + 1) 1 (.slice (some ⟨W.heap.size, 0, none⟩) k k) k (bv (zl k)) := by
    unfold zl; rw [← bv_zeros, hw1]; exact Sl.mkFull_at rfl rfl (by simp [maxLen]; omega)
  have hsz : w1.heap.size = W.heap.size + 1 := by rw [hw1]; simp
  have hB0 : Below W.heap.size W w1 := by rw [hw1]; exact (Below.refl _ _).alloc (Nat.le_refl _) _
  have hf : ∀ o, w1.frozen? ⟨W.heap.size, o, none⟩ = false := by intro o; rw [hw1]; simp [go_sem]
  have hc : ∀ o, o < k → w1.cell? ⟨W.heap.size, o, none⟩ = some (.int .u8 0) := by
    intro o ho
    have h := s0.2
    obtain ⟨A', cap', hv, _, _, h3⟩ := h
    injection hv with e1 _ _
    obtain ⟨b', off', hA, _, hcc⟩ := h3 (by omega)
    rw [← e1] at hA
    injection hA with hA
    injection hA with e3 e4
    subst e3 e4
    have := hcc o (by omega)
    rw [Nat.zero_add] at this
    rw [this]
    unfold zl
    rw [← bv_zeros, List.getElem?_replicate, if_pos ho]
  clear hw0 hw1
  go_enter Try.func13, Try.ntmps13
  by_cases h13 : k ≤ 13
  · have h60 : k < 60 := by omega
    cases a1
    · have s1 := s0
      have SL := Lib.hid s1
      have hf12 := hf 12
      have hf16 := hf 16
      clear hc hf
      clear s0 s1
      go_wp2_with fail
      refine Calls.mono (frame_Parse_err (k := k) (zl_lt k) (zl_len k) (err_short (zl_len k) h60) (SL.out.below (by (repeat' (first | (with_reducible exact Below.refl _ _) | (with_reducible assumption) | (with_reducible refine Below.setCell ?_ ?_ _) | (with_reducible refine Below.alloc ?_ ?_ _) | (with_reducible refine below_drewN ?_ _) | (with_reducible refine Below.drew ?_) | go_size)))) (by go_size)) ?_
      rintro e w5 ⟨d1, s1, t1, c1, y1, A1, n1, p1, rfl, hb1⟩
      have HB1 : Hid (Below W.heap.size W w5) := Below.trans (by (repeat' (first | (with_reducible exact Below.refl _ _) | (with_reducible assumption) | (with_reducible refine Below.setCell ?_ ?_ _) | (with_reducible refine Below.alloc ?_ ?_ _) | (with_reducible refine below_drewN ?_ _) | (with_reducible refine Below.drew ?_) | go_size))) (hb1.mono (by go_size))
      have hz1 := HB1.out.size
      clear hb1
      go_wp2_with fail
      refine (told02 _).mono ?_
      rintro e w2 ⟨rfl, hb2⟩
      have HB2 := Lib.hid (Below.trans (HB1.out.alloc (by omega) _) (hb2.mono (by go_size)))
      clear hb2
      go_wp2
      go_ret
      exact ⟨by simp, HB2.out⟩
    · have s1 := s0
      have SL := Lib.hid s1
      have hf12 := hf 12
      have hf16 := hf 16
      clear hc hf
      clear s0 s1
      go_wp2_with fail
      refine Calls.mono (frame_Parse_err (k := k) (zl_lt k) (zl_len k) (err_short (zl_len k) h60) (SL.out.below (by (repeat' (first | (with_reducible exact Below.refl _ _) | (with_reducible assumption) | (with_reducible refine Below.setCell ?_ ?_ _) | (with_reducible refine Below.alloc ?_ ?_ _) | (with_reducible refine below_drewN ?_ _) | (with_reducible refine Below.drew ?_) | go_size)))) (by go_size)) ?_
      rintro e w5 ⟨d1, s1, t1, c1, y1, A1, n1, p1, rfl, hb1⟩
      have HB1 : Hid (Below W.heap.size W w5) := Below.trans (by (repeat' (first | (with_reducible exact Below.refl _ _) | (with_reducible assumption) | (with_reducible refine Below.setCell ?_ ?_ _) | (with_reducible refine Below.alloc ?_ ?_ _) | (with_reducible refine below_drewN ?_ _) | (with_reducible refine Below.drew ?_) | go_size))) (hb1.mono (by go_size))
      have hz1 := HB1.out.size
      clear hb1
      go_wp2_with fail
      refine (told02 _).mono ?_
      rintro e w2 ⟨rfl, hb2⟩
      have HB2 := Lib.hid (Below.trans (HB1.out.alloc (by omega) _) (hb2.mono (by go_size)))
      clear hb2
      go_wp2
      go_ret
      exact ⟨by simp, HB2.out⟩
  · cases a1
    · by_cases h60 : k < 60
      · have s1 := s0.set (i := 12) (by omega) (.int .u8 ((8 : Nat) : Int))
        rw [bv_set, Nat.zero_add, show ((8 : Nat) : Int) = 8 from rfl] at s1
        have SL := Lib.hid s1
        have hc12 := hc 12 (by omega)
        have hf12 := hf 12
        have hf16 := hf 16
        clear hc hf
        clear s0 s1
        go_wp2_with fail
        refine Calls.mono (frame_Parse_err (k := k) (zb_lt k) (zb_len k) (err_short (zb_len k) h60) (SL.out.below (by (repeat' (first | (with_reducible exact Below.refl _ _) | (with_reducible assumption) | (with_reducible refine Below.setCell ?_ ?_ _) | (with_reducible refine Below.alloc ?_ ?_ _) | (with_reducible refine below_drewN ?_ _) | (with_reducible refine Below.drew ?_) | go_size)))) (by go_size)) ?_
        rintro e w5 ⟨d1, s1, t1, c1, y1, A1, n1, p1, rfl, hb1⟩
        have HB1 : Hid (Below W.heap.size W w5) := Below.trans (by (repeat' (first | (with_reducible exact Below.refl _ _) | (with_reducible assumption) | (with_reducible refine Below.setCell ?_ ?_ _) | (with_reducible refine Below.alloc ?_ ?_ _) | (with_reducible refine below_drewN ?_ _) | (with_reducible refine Below.drew ?_) | go_size))) (hb1.mono (by go_size))
        have hz1 := HB1.out.size
        clear hb1
        go_wp2_with fail
        refine (told02 _).mono ?_
        rintro e w2 ⟨rfl, hb2⟩
        have HB2 := Lib.hid (Below.trans (HB1.out.alloc (by omega) _) (hb2.mono (by go_size)))
        clear hb2
        go_wp2
        go_ret
        exact ⟨by simp, HB2.out⟩
      · by_cases hm : 1514 < k
        · have s1 := s0.set (i := 12) (by omega) (.int .u8 ((8 : Nat) : Int))
          rw [bv_set, Nat.zero_add, show ((8 : Nat) : Int) = 8 from rfl] at s1
          have SL := Lib.hid s1
          have hc12 := hc 12 (by omega)
          have hf12 := hf 12
          have hf16 := hf 16
          clear hc hf
          clear s0 s1
          go_wp2_with fail
          refine Calls.mono (frame_Parse_err (k := k) (zb_lt k) (zb_len k) ((zb_err (by omega)).trans (if_pos hm)) (SL.out.below (by (repeat' (first | (with_reducible exact Below.refl _ _) | (with_reducible assumption) | (with_reducible refine Below.setCell ?_ ?_ _) | (with_reducible refine Below.alloc ?_ ?_ _) | (with_reducible refine below_drewN ?_ _) | (with_reducible refine Below.drew ?_) | go_size)))) (by go_size)) ?_
          rintro e w5 ⟨d1, s1, t1, c1, y1, A1, n1, p1, rfl, hb1⟩
          have HB1 : Hid (Below W.heap.size W w5) := Below.trans (by (repeat' (first | (with_reducible exact Below.refl _ _) | (with_reducible assumption) | (with_reducible refine Below.setCell ?_ ?_ _) | (with_reducible refine Below.alloc ?_ ?_ _) | (with_reducible refine below_drewN ?_ _) | (with_reducible refine Below.drew ?_) | go_size))) (hb1.mono (by go_size))
          have hz1 := HB1.out.size
          clear hb1
          go_wp2_with fail
          refine (told02 _).mono ?_
          rintro e w2 ⟨rfl, hb2⟩
          have HB2 := Lib.hid (Below.trans (HB1.out.alloc (by omega) _) (hb2.mono (by go_size)))
          clear hb2
          go_wp2
          go_ret
          exact ⟨by simp, HB2.out⟩
        · have s1 := s0.set (i := 12) (by omega) (.int .u8 ((8 : Nat) : Int))
          rw [bv_set, Nat.zero_add, show ((8 : Nat) : Int) = 8 from rfl] at s1
          have SL := Lib.hid s1
          have hc12 := hc 12 (by omega)
          have hf12 := hf 12
          have hf16 := hf 16
          clear hc hf
          clear s0 s1
          go_wp2_with fail
          refine Calls.mono (frame_Parse_err (k := k) (zb_lt k) (zb_len k) ((zb_err (by omega)).trans (if_neg hm)) (SL.out.below (by (repeat' (first | (with_reducible exact Below.refl _ _) | (with_reducible assumption) | (with_reducible refine Below.setCell ?_ ?_ _) | (with_reducible refine Below.alloc ?_ ?_ _) | (with_reducible refine below_drewN ?_ _) | (with_reducible refine Below.drew ?_) | go_size)))) (by go_size)) ?_
          rintro e w5 ⟨d1, s1, t1, c1, y1, A1, n1, p1, rfl, hb1⟩
          have HB1 : Hid (Below W.heap.size W w5) := Below.trans (by (repeat' (first | (with_reducible exact Below.refl _ _) | (with_reducible assumption) | (with_reducible refine Below.setCell ?_ ?_ _) | (with_reducible refine Below.alloc ?_ ?_ _) | (with_reducible refine below_drewN ?_ _) | (with_reducible refine Below.drew ?_) | go_size))) (hb1.mono (by go_size))
          have hz1 := HB1.out.size
          clear hb1
          go_wp2_with fail
          refine (told02 _).mono ?_
          rintro e w2 ⟨rfl, hb2⟩
          have HB2 := Lib.hid (Below.trans (HB1.out.alloc (by omega) _) (hb2.mono (by go_size)))
          clear hb2
          go_wp2
          go_ret
          exact ⟨by simp, HB2.out⟩
    · by_cases h17 : k ≤ 17
      · have h60 : k < 60 := by omega
        have s1 := s0.set (i := 12) (by omega) (.int .u8 ((8 : Nat) : Int))
        rw [bv_set, Nat.zero_add, show ((8 : Nat) : Int) = 8 from rfl] at s1
        have s2 := s1.set (i := 12) (by omega) (.int .u8 ((129 : Nat) : Int))
        rw [bv_set, Nat.zero_add, show ((129 : Nat) : Int) = 129 from rfl] at s2
        have SL := Lib.hid s2
        have hc12 := hc 12 (by omega)
        have hf12 := hf 12
        have hf16 := hf 16
        clear hc hf
        clear s0 s1 s2
        go_wp2_with fail
        refine Calls.mono (frame_Parse_err (k := k) (zt_lt k) (zt_len k) (err_short (zt_len k) h60) (SL.out.below (by (repeat' (first | (with_reducible exact Below.refl _ _) | (with_reducible assumption) | (with_reducible refine Below.setCell ?_ ?_ _) | (with_reducible refine Below.alloc ?_ ?_ _) | (with_reducible refine below_drewN ?_ _) | (with_reducible refine Below.drew ?_) | go_size)))) (by go_size)) ?_
        rintro e w5 ⟨d1, s1, t1, c1, y1, A1, n1, p1, rfl, hb1⟩
        have HB1 : Hid (Below W.heap.size W w5) := Below.trans (by (repeat' (first | (with_reducible exact Below.refl _ _) | (with_reducible assumption) | (with_reducible refine Below.setCell ?_ ?_ _) | (with_reducible refine Below.alloc ?_ ?_ _) | (with_reducible refine below_drewN ?_ _) | (with_reducible refine Below.drew ?_) | go_size))) (hb1.mono (by go_size))
        have hz1 := HB1.out.size
        clear hb1
        go_wp2_with fail
        refine (told02 _).mono ?_
        rintro e w2 ⟨rfl, hb2⟩
        have HB2 := Lib.hid (Below.trans (HB1.out.alloc (by omega) _) (hb2.mono (by go_size)))
        clear hb2
        go_wp2
        go_ret
        exact ⟨by simp, HB2.out⟩
      · by_cases h60 : k < 60
        · have s1 := s0.set (i := 12) (by omega) (.int .u8 ((8 : Nat) : Int))
          rw [bv_set, Nat.zero_add, show ((8 : Nat) : Int) = 8 from rfl] at s1
          have s2 := s1.set (i := 12) (by omega) (.int .u8 ((129 : Nat) : Int))
          rw [bv_set, Nat.zero_add, show ((129 : Nat) : Int) = 129 from rfl] at s2
          have s3 := s2.set (i := 16) (by omega) (.int .u8 ((8 : Nat) : Int))
          rw [bv_set, Nat.zero_add, show ((8 : Nat) : Int) = 8 from rfl] at s3
          have SL := Lib.hid s3
          have hc12 := hc 12 (by omega)
          have hc16 := hc 16 (by omega)
          have hf12 := hf 12
          have hf16 := hf 16
          clear hc hf
          clear s0 s1 s2 s3
          go_wp2_with fail
          refine Calls.mono (frame_Parse_err (k := k) (zu_lt k) (zu_len k) (err_short (zu_len k) h60) (SL.out.below (by (repeat' (first | (with_reducible exact Below.refl _ _) | (with_reducible assumption) | (with_reducible refine Below.setCell ?_ ?_ _) | (with_reducible refine Below.alloc ?_ ?_ _) | (with_reducible refine below_drewN ?_ _) | (with_reducible refine Below.drew ?_) | go_size)))) (by go_size)) ?_
          rintro e w5 ⟨d1, s1, t1, c1, y1, A1, n1, p1, rfl, hb1⟩
          have HB1 : Hid (Below W.heap.size W w5) := Below.trans (by (repeat' (first | (with_reducible exact Below.refl _ _) | (with_reducible assumption) | (with_reducible refine Below.setCell ?_ ?_ _) | (with_reducible refine Below.alloc ?_ ?_ _) | (with_reducible refine below_drewN ?_ _) | (with_reducible refine Below.drew ?_) | go_size))) (hb1.mono (by go_size))
          have hz1 := HB1.out.size
          clear hb1
          go_wp2_with fail
          refine (told02 _).mono ?_
          rintro e w2 ⟨rfl, hb2⟩
          have HB2 := Lib.hid (Below.trans (HB1.out.alloc (by omega) _) (hb2.mono (by go_size)))
          clear hb2
          go_wp2
          go_ret
          exact ⟨by simp, HB2.out⟩
        · by_cases hm : 1518 < k
          · have s1 := s0.set (i := 12) (by omega) (.int .u8 ((8 : Nat) : Int))
            rw [bv_set, Nat.zero_add, show ((8 : Nat) : Int) = 8 from rfl] at s1
            have s2 := s1.set (i := 12) (by omega) (.int .u8 ((129 : Nat) : Int))
            rw [bv_set, Nat.zero_add, show ((129 : Nat) : Int) = 129 from rfl] at s2
            have s3 := s2.set (i := 16) (by omega) (.int .u8 ((8 : Nat) : Int))
            rw [bv_set, Nat.zero_add, show ((8 : Nat) : Int) = 8 from rfl] at s3
            have SL := Lib.hid s3
            have hc12 := hc 12 (by omega)
            have hc16 := hc 16 (by omega)
            have hf12 := hf 12
            have hf16 := hf 16
            clear hc hf
            clear s0 s1 s2 s3
            go_wp2_with fail
            refine Calls.mono (frame_Parse_err (k := k) (zu_lt k) (zu_len k) ((zu_err (by omega)).trans (if_pos hm)) (SL.out.below (by (repeat' (first | (with_reducible exact Below.refl _ _) | (with_reducible assumption) | (with_reducible refine Below.setCell ?_ ?_ _) | (with_reducible refine Below.alloc ?_ ?_ _) | (with_reducible refine below_drewN ?_ _) | (with_reducible refine Below.drew ?_) | go_size)))) (by go_size)) ?_
            rintro e w5 ⟨d1, s1, t1, c1, y1, A1, n1, p1, rfl, hb1⟩
            have HB1 : Hid (Below W.heap.size W w5) := Below.trans (by (repeat' (first | (with_reducible exact Below.refl _ _) | (with_reducible assumption) | (with_reducible refine Below.setCell ?_ ?_ _) | (with_reducible refine Below.alloc ?_ ?_ _) | (with_reducible refine below_drewN ?_ _) | (with_reducible refine Below.drew ?_) | go_size))) (hb1.mono (by go_size))
            have hz1 := HB1.out.size
            clear hb1
            go_wp2_with fail
            refine (told02 _).mono ?_
            rintro e w2 ⟨rfl, hb2⟩
            have HB2 := Lib.hid (Below.trans (HB1.out.alloc (by omega) _) (hb2.mono (by go_size)))
            clear hb2
            go_wp2
            go_ret
            exact ⟨by simp, HB2.out⟩
          · have s1 := s0.set (i := 12) (by omega) (.int .u8 ((8 : Nat) : Int))
            rw [bv_set, Nat.zero_add, show ((8 : Nat) : Int) = 8 from rfl] at s1
            have s2 := s1.set (i := 12) (by omega) (.int .u8 ((129 : Nat) : Int))
            rw [bv_set, Nat.zero_add, show ((129 : Nat) : Int) = 129 from rfl] at s2
            have s3 := s2.set (i := 16) (by omega) (.int .u8 ((8 : Nat) : Int))
            rw [bv_set, Nat.zero_add, show ((8 : Nat) : Int) = 8 from rfl] at s3
            have SL := Lib.hid s3
            have hc12 := hc 12 (by omega)
            have hc16 := hc 16 (by omega)
            have hf12 := hf 12
            have hf16 := hf 16
            clear hc hf
            clear s0 s1 s2 s3
            go_wp2_with fail
            refine Calls.mono (frame_Parse_err (k := k) (zu_lt k) (zu_len k) ((zu_err (by omega)).trans (if_neg hm)) (SL.out.below (by (repeat' (first | (with_reducible exact Below.refl _ _) | (with_reducible assumption) | (with_reducible refine Below.setCell ?_ ?_ _) | (with_reducible refine Below.alloc ?_ ?_ _) | (with_reducible refine below_drewN ?_ _) | (with_reducible refine Below.drew ?_) | go_size)))) (by go_size)) ?_
            rintro e w5 ⟨d1, s1, t1, c1, y1, A1, n1, p1, rfl, hb1⟩
            have HB1 : Hid (Below W.heap.size W w5) := Below.trans (by (repeat' (first | (with_reducible exact Below.refl _ _) | (with_reducible assumption) | (with_reducible refine Below.setCell ?_ ?_ _) | (with_reducible refine Below.alloc ?_ ?_ _) | (with_reducible refine below_drewN ?_ _) | (with_reducible refine Below.drew ?_) | go_size))) (hb1.mono (by go_size))
            have hz1 := HB1.out.size
            clear hb1
            go_wp2_with fail
            refine (told02 _).mono ?_
            rintro e w2 ⟨rfl, hb2⟩
            have HB2 := Lib.hid (Below.trans (HB1.out.alloc (by omega) _) (hb2.mono (by go_size)))
            clear hb2
            go_wp2
            go_ret
            exact ⟨by simp, HB2.out⟩

/-- What the walk gives, for every argument: the row's own words. -/
theorem contract (H : Type) (enc : TypeId × Value → H) (W : World) (base : Nat) (args : Array Value) (ds gs : List (DataW H)) (before : List MemPlace)
    (hval : ∀ (j : Nat) t v, Try.f13.params[j]? = some t → args[j]? = some v → Value.okWide Try.prog W .any base t v)
    (hW : DataW.Whole enc Try.prog Try.f13.params.toList Rows.frameLengthsSpec.vars false W args.toList ds gs before) :
    Calls Try.prog 13 args W fun e W' => ∃ v, e = .returned v ∧ Rows.frameLengthsSpec.post enc Try.prog Try.f13 false true false false W args v W' := by
  have hW' := hW
  obtain ⟨p, q, hA0, hV, rfl, hfz, hnd⟩ := hW
  have hA : DataW.TrodAll enc Try.prog W 0 (fun _ => true) true Try.f13.params.toList args.toList ds p := hA0
  rw [Try.params13] at hA hval
  obtain ⟨v0, vs0, d0, ds0, p0, q0, hargs, rfl, rfl, h0, r0⟩ := trodAll_cons hA
  obtain ⟨v1, vs1, d1, ds1, p1, q1, rfl, rfl, rfl, h1, r1⟩ := trodAll_cons r0
  obtain ⟨rfl, rfl, rfl⟩ := trodAll_nil r1
  obtain rfl : args = #[v0, v1] := by cases args; simp_all
  obtain ⟨a0, rfl, b0⟩ := open_i64 Try.underlying3 (hval 0 3 v0 rfl rfl) h0
  obtain ⟨a1, rfl, _, _⟩ := open_bool Try.underlying4 (hval 1 4 v1 rfl rfl) h1
  refine (walk W a0 b0 a1).mono fun e W' ⟨he, hb⟩ => ?_
  subst he
  exact close_true (by kernel_rfl) Try.underlying4 (by kernel_rfl) (by kernel_rfl) rfl rfl hW' hb

set_option maxRecDepth 100000 in
theorem lifted (os : Os) (started : os.Started) (H : Type) (enc : TypeId × Value → H) :
    ReturnsInHanded {} Try.checked os 13 .any (Rows.frameLengthsSpec.pre6 enc Try.prog Try.f13 Rows.frameLengthsRow.domain false) (Rows.frameLengthsSpec.post enc Try.prog Try.f13 false true false false) := by
  refine returnsInHanded_of_change (C := Try.checked) own started (by kernel_rfl) Try.func13
    (ChangeSpec.witness6 (enc := enc) (C := Try.checked) false ⟨#[], #[.int .i64 0, .bool false], []⟩ 8 (by kernel_rfl) (by kernel_rfl) (by kernel_rfl) (by kernel_rfl)) ?_
  intro W base args ds gs before hval hW _ _
  exact contract H enc W base args ds gs before hval hW

theorem proved : Rows.FrameLengthsSaid :=
  OpenClaim.holds_of_wide 13 Try.f13 rfl rfl rfl rfl rfl rfl rfl ⟨rfl, rfl, rfl, rfl, rfl⟩ rfl rfl rfl rfl rfl (by kernel_rfl) Try.func13 (by kernel_rfl)
    (of_decide_eq_true (by kernel_rfl)) (by unfold Func.isWrapper; first | (rw [if_pos (by decide +kernel)]; kernel_rfl) | (rw [if_neg (by decide +kernel)]; exact ⟨rfl, rfl⟩))
    (fun os started H enc _ => lifted os started H enc)
#print axioms proved
end Go.Proofs.Ytkfgnbplomcjfaa.frameLengths
