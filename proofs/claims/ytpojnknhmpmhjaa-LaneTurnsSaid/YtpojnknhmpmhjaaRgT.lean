/-
  Layer 14's told: a number goes through a ring of one. No statement is proved here.
-/
import Derived.Test.YtpojnknhmpmhjaaRgI
set_option linter.unusedVariables false
namespace Go.Proofs.Ytpojnknhmpmhjaa
open Go.RowKit

theorem RngQ.pu {g : RgS} {p t : Nat} {q : List Int} (h : RngQ g p t q) (z : Bool) : RngQ { g with pu := z } p t q :=
  ⟨⟨h.fits.cells, h.fits.mem, h.fits.one, h.fits.most⟩, h.st0, h.st1, h.cp, h.ct, h.tp, h.len, h.room, h.few, h.num⟩
theorem RngQ.po {g : RgS} {p t : Nat} {q : List Int} (h : RngQ g p t q) (z : Bool) : RngQ { g with po := z } p t q :=
  ⟨⟨h.fits.cells, h.fits.mem, h.fits.one, h.fits.most⟩, h.st0, h.st1, h.cp, h.ct, h.tp, h.len, h.room, h.few, h.num⟩
theorem pushK0 (g : RgS) (p t : Nat) (v : Int) : PushK g p t ⟨true, 1, 0, v, false, 0⟩ := ⟨rfl, by simp, by simp, rfl, rfl, fun h => by simp at h, fun h => by simp at h, fun h => by simp at h⟩
theorem popK0 (g : RgS) (p t : Nat) : PopK g p t ⟨false, 1, 0, 0, false, 0⟩ := ⟨rfl, by simp, by simp, rfl, rfl, fun h => by simp at h, fun h => by simp at h, fun h => by simp at h⟩
namespace T14
def G0 : RgS := newR (newS 4 1) 1 1 0
def A0 : AcS := ⟨true, 1, 0, 5, false, 0⟩
def G1 : RgS := (iterR 4 ({ G0 with pu := true }, A0)).1
def A1 : AcS := (iterR 4 ({ G0 with pu := true }, A0)).2
def B0 : AcS := ⟨true, 1, 0, 6, false, 0⟩
def G2 : RgS := (iterR 4 ({ G1 with pu := true }, B0)).1
def B1 : AcS := (iterR 4 ({ G1 with pu := true }, B0)).2
def C0 : AcS := ⟨false, 1, 0, 0, false, 0⟩
def G3 : RgS := (iterR 4 ({ G2 with po := true }, C0)).1
def C1 : AcS := (iterR 4 ({ G2 with po := true }, C0)).2
theorem q0 : RngQ G0 0 0 [] := newQ (by decide) (by decide) (by decide) (by decide) (by decide) (by decide)
theorem e1 : PushE { G0 with pu := true } 0 0 [] A0 G1 A1 := (push_end 4 (q0.pu true) (pushK0 _ _ _ 5) (by decide) (by decide) (by decide)).1
theorem q1 : RngQ G1 1 0 [5] := by
  rcases e1.res with ⟨_, _, h, _⟩ | ⟨h, _⟩
  · exact h
  · exact absurd h (by decide)
theorem e2 : PushE { G1 with pu := true } 1 0 [5] B0 G2 B1 := (push_end 4 (q1.pu true) (pushK0 _ _ _ 6) (by decide) (by decide) (by decide)).1
theorem q2 : RngQ G2 1 0 [5] := by
  rcases e2.res with ⟨h, _⟩ | ⟨_, _, h, _⟩
  · exact absurd h (by decide)
  · exact h
theorem plain : ∃ (g0 g1 g2 : RgS) (a1 b1 c1 : AcS), newR (newS 4 1) 1 1 0 = g0 ∧ g0.pu = false ∧ g0.m.t ≤ 100 ∧ iterR 4 ({ g0 with pu := true }, ⟨true, 1, 0, 5, false, 0⟩) = (g1, a1) ∧ g1.pu = false ∧ g1.m.t ≤ 100 ∧ a1.ok = true ∧ a1.num = 5 ∧ a1.mark = 6 ∧
    iterR 4 ({ g1 with pu := true }, ⟨true, 1, 0, 6, false, 0⟩) = (g2, b1) ∧ g2.po = false ∧ g2.m.t ≤ 100 ∧ b1.ok = false ∧ b1.mark = 8 ∧ RngQ g2 1 0 [5] ∧ (∃ g3, iterR 4 ({ g2 with po := true }, ⟨false, 1, 0, 0, false, 0⟩) = (g3, c1)) ∧ c1.ok = true ∧ c1.num = 5 ∧ c1.mark = 12 :=
  ⟨G0, G1, G2, A1, B1, C1, rfl, by decide, by decide, rfl, by decide, by decide, by decide, by decide, by decide, rfl, by decide, by decide, by decide, by decide, q2, ⟨G3, rfl⟩, by decide, by decide, by decide⟩
end T14
set_option maxHeartbeats 1600000 in
theorem told14 (w : World) : Calls Try.prog 13 #[] w (Says (.bool true) w) := by
  obtain ⟨G0, G1, G2, A1, B1, C1, e0, e1, e2, e3, e4, e5, e6, e7, e8, e9, e10, e11, e12, e13, e14, ⟨G3, e15⟩, e16, e17, e18⟩ := T14.plain
  have E0 := Lib.hid e0
  have E1 := Lib.hid e1
  have E2 := Lib.hid e2
  have E3 := Lib.hid e3
  have E4 := Lib.hid e4
  have E5 := Lib.hid e5
  have E6 := Lib.hid e6
  have E7 := Lib.hid e7
  have E8 := Lib.hid e8
  have E9 := Lib.hid e9
  have E10 := Lib.hid e10
  have E11 := Lib.hid e11
  have E12 := Lib.hid e12
  have E13 := Lib.hid e13
  have E14 := Lib.hid e14
  have E15 := Lib.hid e15
  have E16 := Lib.hid e16
  have E17 := Lib.hid e17
  have E18 := Lib.hid e18
  clear e0 e1 e2 e3 e4 e5 e6 e7 e8 e9 e10 e11 e12 e13 e14 e15 e16 e17 e18
  have HN := Lib.hid (mem_New 4 1 (by omega) (by omega) w)
  go_enter Try.func13, Try.ntmps13
  go_wp2_with fail
  refine (HN.out).mono ?_
  rintro e w1 ⟨b, rfl, hm, hb⟩
  have M1 := Lib.hid hm
  have B1' := Lib.hid hb
  clear hm hb HN
  go_wp2_with fail
  refine (ring_New M1.out (by decide) 1 1 (by decide) (by decide) (by decide) 0).mono ?_
  rintro e w2 ⟨rb, rfl, hr, hle, htt⟩
  rw [E0.out] at hr
  have R2 := Lib.hid hr
  have BB2 := Lib.hid (htt.below B1'.out (Nat.le_refl _) B1'.out.size)
  have hz := BB2.out.size
  have hw1 := B1'.out.size
  clear hr htt M1 B1'
  go_wp2_with fail
  refine (ring_Push R2.out E1.out 5).mono ?_
  rintro e w3 ⟨rfl, hr, ha, ht⟩
  obtain ⟨ab1, hab1⟩ : ∃ k, k = w2.heap.size := ⟨_, rfl⟩
  rw [← hab1] at ha ⊢
  have hrlt := R2.out.lt
  have hro := R2.out.out
  have R3 := Lib.hid hr
  have A3 := Lib.hid ha
  have hx1 : rb < ab1 ∧ ab1 < w3.heap.size := ⟨by omega, A3.out.lt⟩
  clear hab1
  have BB3 := Lib.hid (ht.below BB2.out (fun k hk => by omega) (by omega))
  clear hr ha ht R2
  go_wp2_with fail
  refine (ring_PushBusy R3.out rfl 6).mono ?_
  rintro e w3' ⟨rfl, rfl⟩
  go_wp2_with fail
  refine (act_finish R3.out A3.out (by omega) (by omega) (Int.le_trans E2.out (by decide)) rfl).mono ?_
  rintro e w4 ⟨rfl, hr, ha, ht⟩
  rw [E3.out] at hr ha
  have R4 : Hid (RingAt w4 w.heap.size b rb G1) := hr
  have A4 : Hid (ActAt w4 rb ab1 A1) := ha
  have BB4 := Lib.hid (ht.below BB3.out (fun k hk => by unfold RingD at hk; omega) (by have := BB3.out.size; omega))
  clear hr ha ht R3 A3
  go_wp2_with fail
  refine (act_Ok A4.out).mono ?_
  rw [E6.out]
  rintro e w4' ⟨rfl, rfl⟩
  go_wp2_with fail
  refine (act_Value A4.out).mono ?_
  rw [if_pos E6.out, E7.out]
  rintro e w4' ⟨rfl, rfl⟩
  go_wp2_with fail
  refine (ring_Push R4.out E4.out 6).mono ?_
  rintro e w5 ⟨rfl, hr, ha, ht⟩
  obtain ⟨ab2, hab2⟩ : ∃ k, k = w4.heap.size := ⟨_, rfl⟩
  rw [← hab2] at ha ⊢
  have hl4 := A4.out.lt
  have hl4' := R4.out.lt
  have R5 := Lib.hid hr
  have A5 := Lib.hid (A4.out.tch ht (by omega))
  have C5 := Lib.hid ha
  have hx2 : rb < ab2 ∧ ab1 < ab2 := ⟨by omega, by omega⟩
  clear hab2
  have BB5 := Lib.hid (ht.below BB4.out (fun k hk => by omega) BB4.out.size)
  clear hr ha ht R4 A4
  go_wp2_with fail
  refine (act_finish R5.out C5.out (by omega) (by omega) (Int.le_trans E5.out (by decide)) rfl).mono ?_
  rintro e w6 ⟨rfl, hr, ha, ht⟩
  rw [E9.out] at hr ha
  have R6 : Hid (RingAt w6 w.heap.size b rb G2) := hr
  have A6 := Lib.hid (A5.out.tch ht (by unfold RingD; omega))
  have C6 : Hid (ActAt w6 rb ab2 B1) := ha
  have BB6 := Lib.hid (ht.below BB5.out (fun k hk => by unfold RingD at hk; omega) BB5.out.size)
  clear hr ha ht R5 A5 C5
  go_wp2_with fail
  refine (act_Ok C6.out).mono ?_
  rw [E12.out]
  rintro e w6' ⟨rfl, rfl⟩
  go_wp2_with fail
  refine (ring_Len R6.out E14.out).mono ?_
  rintro e w7 ⟨rfl, m7, rfl⟩
  have R7 := Lib.hid (R6.out.below (below_drewN (Below.refl _ _) m7))
  have A7 := Lib.hid (A6.out.below (below_drewN (Below.refl _ _) m7))
  have C7 := Lib.hid (C6.out.below (below_drewN (Below.refl _ _) m7))
  have BB7 := Lib.hid (below_drewN BB6.out m7)
  obtain ⟨w7, hw7⟩ : ∃ w7, w7 = w6.drewN m7 := ⟨_, rfl⟩
  rw [← hw7] at R7 A7 C7 BB7 ⊢
  clear hw7 R6 A6 C6
  go_wp2_with fail
  refine (ring_Pop R7.out E10.out).mono ?_
  rintro e w8 ⟨rfl, hr, ha, ht⟩
  obtain ⟨ab3, hab3⟩ : ∃ k, k = w7.heap.size := ⟨_, rfl⟩
  rw [← hab3] at ha ⊢
  have hl7 := A7.out.lt
  have hl7' := C7.out.lt
  have hl7'' := R7.out.lt
  have R8 := Lib.hid hr
  have A8 := Lib.hid (A7.out.tch ht (by omega))
  have C8 := Lib.hid (C7.out.tch ht (by omega))
  have D8 := Lib.hid ha
  have hx3 : rb < ab3 ∧ ab1 < ab3 ∧ ab2 < ab3 := ⟨by omega, by omega, by omega⟩
  clear hab3
  have BB8 := Lib.hid (ht.below BB7.out (fun k hk => by omega) BB7.out.size)
  clear hr ha ht R7 A7 C7
  go_wp2_with fail
  refine (act_finish R8.out D8.out (by omega) (by omega) (Int.le_trans E11.out (by decide)) rfl).mono ?_
  rintro e w9 ⟨rfl, hr, ha, ht⟩
  rw [E15.out] at ha
  have A9 := Lib.hid (A8.out.tch ht (by unfold RingD; omega))
  have C9 := Lib.hid (C8.out.tch ht (by unfold RingD; omega))
  have D9 : Hid (ActAt w9 rb ab3 C1) := ha
  have BB9 := Lib.hid (ht.below BB8.out (fun k hk => by unfold RingD at hk; omega) BB8.out.size)
  clear hr ha ht R8 A8 C8 D8
  go_wp2_with fail
  refine (act_Ok D9.out).mono ?_
  rw [E16.out]
  rintro e w9' ⟨rfl, rfl⟩
  go_wp2_with fail
  refine (act_Value D9.out).mono ?_
  rw [if_pos E16.out, E17.out]
  rintro e w9' ⟨rfl, rfl⟩
  go_wp2_with fail
  refine (act_Mark D9.out).mono ?_
  rw [E18.out]
  rintro e w9' ⟨rfl, rfl⟩
  go_wp2_with fail
  refine (act_Mark C9.out).mono ?_
  rw [E13.out]
  rintro e w9' ⟨rfl, rfl⟩
  go_wp2_with fail
  refine (act_Mark C9.out).mono ?_
  rw [E13.out]
  rintro e w9' ⟨rfl, rfl⟩
  go_wp2_with fail
  refine (act_Mark A9.out).mono ?_
  rw [E8.out]
  rintro e w9' ⟨rfl, rfl⟩
  go_wp2_with fail
  refine (act_Mark A9.out).mono ?_
  rw [E8.out]
  rintro e w9' ⟨rfl, rfl⟩
  go_wp2
  go_ret
  exact ⟨by simp, BB9.out⟩
end Go.Proofs.Ytpojnknhmpmhjaa
