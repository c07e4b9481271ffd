/-
  Contracts of layer 2's parsers, the program's own and the document's: both tell what 'parR' and 'errN' say. No statement is proved here.
-/
import Derived.Test.YthamjkccljhhcaaFrameA
namespace Go.Proofs.Ythamjkccljhhcaa
open Go.RowKit

theorem tup_bi {a a' : Bool} {b b' : Int} (h : a = a') (h2 : b = b') : Ending.returned (.tuple #[.bool a, .int .i64 b]) = .returned (.tuple #[.bool a', .int .i64 b']) := by rw [h, h2]
/-- What 'look' answers. -/
def lookV (l : List Nat) : Value := .tuple #[.bool (if errN l = 0 then tagB l else false), .int .i64 (errN l : Nat)]

set_option maxHeartbeats 1000000 in
theorem frame_look {l : List Nat} {n : Nat} (hl : ∀ x ∈ l, x < 256) {v : Value} {w : World} {B : Nat} (hv : Sl w B 1 v n (bv l)) :
    Calls Try.prog 48 #[v] w (Quiet (lookV l) w) := by
  have hll : l.length = n := Sl.length hv
  by_cases h60 : n < 60
  · have he : errN l = 2 := by unfold errN; rw [if_pos (by omega)]
    have hlook : lookV l = .tuple #[.bool false, .int .i64 2] := by unfold lookV; rw [he]; rfl
    rw [hlook]
    obtain ⟨A, cap, rfl, hcap, hmx⟩ := hv.form
    clear hll hv he hlook
    go_enter Try.func48, Try.ntmps48
    go_wp2
    go_ret2
    exact ⟨rfl, 0, rfl⟩
  · obtain ⟨b, off, cap, rfl, hcap, hmx, hB, hc⟩ := hv.at_ (by omega)
    unfold maxLen at hmx
    have h60' : 60 ≤ n := by omega
    have hc12 : ¬ cap = 12 := by omega
    have s12 := hv.dropAt (k := 12) (by omega)
    have HV := Lib.hid hv
    have HLL := Lib.hid hll
    have hbv : (bv l).drop 12 = bv (l.drop 12) := by simp [bv, List.map_drop]
    rw [hbv] at s12
    have S12 := Lib.hid s12
    have hnum : num2 (l.drop 12) 0 = num2 l 12 := num2_drop l 12 0
    clear hc hv hll s12 hbv
    have hnl := num2_lt hl 12
    cases ht : tagB l with
    | false =>
      have ht1 : num2 l 12 ≠ 33024 := by simpa [tagB] using ht
      have hh : headN l = 14 := by unfold headN; rw [ht]; rfl
      have hne : (((num2 l 12 : Nat) : Int) == 33024) = false := by simp; omega
      by_cases hlong : 1514 < n
      · have he : errN l = 3 := by unfold errN; rw [if_neg (by have := HLL.out; omega), hh, if_pos (by have := HLL.out; omega)]
        have hlook : lookV l = .tuple #[.bool false, .int .i64 3] := by unfold lookV; rw [he]; rfl
        rw [hlook]
        have hlong' : (1514 : Int) < (n : Int) := by omega
        clear he hlook ht ht1 hh
        go_enter Try.func48, Try.ntmps48
        go_wp2_with fail
        refine (frame_number (l := l.drop 12) (by omega) (mem_drop hl 12) S12.out).mono ?_
        rw [hnum]
        rintro e w1 ⟨rfl, n1, rfl⟩
        clear hnum
        go_wp2
        go_ret2
        exact ⟨rfl, _, rfl⟩
      have hlong' : (n : Int) ≤ 1514 := by omega
      have hmt : ((n : Int) - 14).toNat = n - 14 := by omega
      cases hm : meetsB (num2 l 12) (n - 14) with
      | false =>
        have he : errN l = 4 := by unfold errN; rw [if_neg (by have := HLL.out; omega), hh, if_neg (by have := HLL.out; omega), HLL.out, hm]; rfl
        have hlook : lookV l = .tuple #[.bool false, .int .i64 4] := by unfold lookV; rw [he]; rfl
        rw [hlook]
        have HM := Lib.hid hm
        clear he hlook ht ht1 hh hm
        go_enter Try.func48, Try.ntmps48
        go_wp2_with fail
        refine (frame_number (l := l.drop 12) (by omega) (mem_drop hl 12) S12.out).mono ?_
        rw [hnum]
        rintro e w1 ⟨rfl, n1, rfl⟩
        go_wp2_with fail
        refine (frame_number (l := l.drop 12) (by omega) (mem_drop hl 12) (S12.out.drewN _)).mono ?_
        rw [hnum]
        rintro e w1 ⟨rfl, n2, rfl⟩
        clear hnum
        go_wp2_with fail
        refine (frame_meets (num2 l 12) _ (by omega) _).mono ?_
        rw [hmt, HM.out]
        rintro e w1 ⟨rfl, rfl⟩
        go_wp2
        go_ret2
        exact ⟨rfl, _, (by first | rfl | exact World.drewN_drewN _ _ _)⟩
      | true =>
        have he : errN l = 0 := by unfold errN; rw [if_neg (by have := HLL.out; omega), hh, if_neg (by have := HLL.out; omega), HLL.out, hm]; rfl
        have hlook : lookV l = .tuple #[.bool false, .int .i64 0] := by unfold lookV; rw [he, ht]; rfl
        rw [hlook]
        have HM := Lib.hid hm
        clear he hlook ht ht1 hh hm
        go_enter Try.func48, Try.ntmps48
        go_wp2_with fail
        refine (frame_number (l := l.drop 12) (by omega) (mem_drop hl 12) S12.out).mono ?_
        rw [hnum]
        rintro e w1 ⟨rfl, n1, rfl⟩
        go_wp2_with fail
        refine (frame_number (l := l.drop 12) (by omega) (mem_drop hl 12) (S12.out.drewN _)).mono ?_
        rw [hnum]
        rintro e w1 ⟨rfl, n2, rfl⟩
        clear hnum
        go_wp2_with fail
        refine (frame_meets (num2 l 12) _ (by omega) _).mono ?_
        rw [hmt, HM.out]
        rintro e w1 ⟨rfl, rfl⟩
        go_wp2
        go_ret2
        exact ⟨rfl, _, (by first | rfl | exact World.drewN_drewN _ _ _)⟩
    | true =>
      have ht1 : num2 l 12 = 33024 := by simpa [tagB] using ht
      have hh : headN l = 18 := by unfold headN; rw [ht]; rfl
      have hne : (((num2 l 12 : Nat) : Int) == 33024) = true := by simp; omega
      have s16 := HV.out.dropAt (k := 16) (by omega)
      have hbv16 : (bv l).drop 16 = bv (l.drop 16) := by simp [bv, List.map_drop]
      rw [hbv16] at s16
      have S16 := Lib.hid s16
      have hnum16 : num2 (l.drop 16) 0 = num2 l 16 := num2_drop l 16 0
      have hc16 : ¬ cap = 16 := by omega
      clear s16 hbv16
      by_cases hlong : 1518 < n
      · have he : errN l = 3 := by unfold errN; rw [if_neg (by have := HLL.out; omega), hh, if_pos (by have := HLL.out; omega)]
        have hlook : lookV l = .tuple #[.bool false, .int .i64 3] := by unfold lookV; rw [he]; rfl
        rw [hlook]
        have hlong' : (1518 : Int) < (n : Int) := by omega
        clear he hlook ht ht1 hh
        go_enter Try.func48, Try.ntmps48
        go_wp2_with fail
        refine (frame_number (l := l.drop 12) (by omega) (mem_drop hl 12) S12.out).mono ?_
        rw [hnum]
        rintro e w1 ⟨rfl, n1, rfl⟩
        clear hnum hnum16
        go_wp2
        go_ret2
        exact ⟨rfl, _, rfl⟩
      have hlong' : (n : Int) ≤ 1518 := by omega
      have hmt : ((n : Int) - 18).toNat = n - 18 := by omega
      cases hm : meetsB (num2 l 16) (n - 18) with
      | false =>
        have he : errN l = 4 := by unfold errN; rw [if_neg (by have := HLL.out; omega), hh, if_neg (by have := HLL.out; omega), HLL.out, hm]; rfl
        have hlook : lookV l = .tuple #[.bool false, .int .i64 4] := by unfold lookV; rw [he]; rfl
        rw [hlook]
        have HM := Lib.hid hm
        clear he hlook ht ht1 hh hm
        go_enter Try.func48, Try.ntmps48
        go_wp2_with fail
        refine (frame_number (l := l.drop 12) (by omega) (mem_drop hl 12) S12.out).mono ?_
        rw [hnum]
        rintro e w1 ⟨rfl, n1, rfl⟩
        go_wp2_with fail
        refine (frame_number (l := l.drop 16) (by omega) (mem_drop hl 16) (S16.out.drewN _)).mono ?_
        rw [hnum16]
        rintro e w1 ⟨rfl, n2, rfl⟩
        clear hnum hnum16
        go_wp2_with fail
        refine (frame_meets (num2 l 16) _ (by omega) _).mono ?_
        rw [hmt, HM.out]
        rintro e w1 ⟨rfl, rfl⟩
        go_wp2
        go_ret2
        exact ⟨rfl, _, (by first | rfl | exact World.drewN_drewN _ _ _)⟩
      | true =>
        have he : errN l = 0 := by unfold errN; rw [if_neg (by have := HLL.out; omega), hh, if_neg (by have := HLL.out; omega), HLL.out, hm]; rfl
        have hlook : lookV l = .tuple #[.bool true, .int .i64 0] := by unfold lookV; rw [he, ht]; rfl
        rw [hlook]
        have HM := Lib.hid hm
        clear he hlook ht ht1 hh hm
        go_enter Try.func48, Try.ntmps48
        go_wp2_with fail
        refine (frame_number (l := l.drop 12) (by omega) (mem_drop hl 12) S12.out).mono ?_
        rw [hnum]
        rintro e w1 ⟨rfl, n1, rfl⟩
        go_wp2_with fail
        refine (frame_number (l := l.drop 16) (by omega) (mem_drop hl 16) (S16.out.drewN _)).mono ?_
        rw [hnum16]
        rintro e w1 ⟨rfl, n2, rfl⟩
        clear hnum hnum16
        go_wp2_with fail
        refine (frame_meets (num2 l 16) _ (by omega) _).mono ?_
        rw [hmt, HM.out]
        rintro e w1 ⟨rfl, rfl⟩
        go_wp2
        go_ret2
        exact ⟨rfl, _, (by first | rfl | exact World.drewN_drewN _ _ _)⟩
end Go.Proofs.Ythamjkccljhhcaa
