/-
  A ring's calls: a new one, a Push and a Pop that begin, how many wait, which; what an act tells; of what isn't there. No statement is proved here.
-/
import Derived.Test.YtpojnknhmpmhjaaRgF
import Derived.Test.YtpojnknhmpmhjaaMemD
set_option linter.unusedVariables false
namespace Go.Proofs.Ytpojnknhmpmhjaa
open Go.RowKit

def cellsI (s : Int) : Int := if s < 1 ∨ 64 < s then 0 else s + 2
theorem ring_Cells (s : Int) (w : World) : Calls Try.prog 31 #[.int .i64 s] w fun e w' => e = .returned (.int .i64 (cellsI s)) ∧ w = w' := by
  unfold cellsI
  rcases (show s < 1 ∨ (¬ s < 1 ∧ 64 < s) ∨ (¬ s < 1 ∧ ¬ 64 < s) by omega) with h | ⟨h, h'⟩ | ⟨h, h'⟩
  · rw [if_pos (.inl h)]
    have hd : decide (s < 1) = true := by simpa using h
    go_enter Try.func31, Try.ntmps31
    go_wp2
    go_ret
    exact ⟨rfl, rfl⟩
  · rw [if_pos (.inr h')]
    have hd : decide (s < 1) = false := by simpa using h
    have hd' : decide (64 < s) = true := by simpa using h'
    go_enter Try.func31, Try.ntmps31
    go_wp2
    go_ret
    exact ⟨rfl, rfl⟩
  · rw [if_neg (by omega)]
    have hd : decide (s < 1) = false := by simpa using h
    have hd' : decide (64 < s) = false := by simpa using h'
    have hw : wrap64 (2 + s) = s + 2 := by rw [Int.add_comm]; exact IntWalk.wrap64_in _ (by omega)
    have hw2 : wrap64 (s + 2) = s + 2 := IntWalk.wrap64_in _ (by omega)
    go_enter Try.func31, Try.ntmps31
    go_wp2
    go_ret
    exact ⟨by first | rfl | (simp; done) | (simp; omega), rfl⟩
theorem ref14_Cells (s : Int) (w : World) : Calls Try.prog 30 #[.int .i64 s] w fun e w' => e = .returned (.int .i64 (cellsI s)) ∧ w = w' := by
  unfold cellsI
  rcases (show s < 1 ∨ (¬ s < 1 ∧ 64 < s) ∨ (¬ s < 1 ∧ ¬ 64 < s) by omega) with h | ⟨h, h'⟩ | ⟨h, h'⟩
  · rw [if_pos (.inl h)]
    have hd : decide (s < 1) = true := by simpa using h
    go_enter Try.func30, Try.ntmps30
    go_wp2
    go_ret
    exact ⟨rfl, rfl⟩
  · rw [if_pos (.inr h')]
    have hd : decide (s < 1) = false := by simpa using h
    have hd' : decide (64 < s) = true := by simpa using h'
    go_enter Try.func30, Try.ntmps30
    go_wp2
    go_ret
    exact ⟨rfl, rfl⟩
  · rw [if_neg (by omega)]
    have hd : decide (s < 1) = false := by simpa using h
    have hd' : decide (64 < s) = false := by simpa using h'
    have hw : wrap64 (2 + s) = s + 2 := by rw [Int.add_comm]; exact IntWalk.wrap64_in _ (by omega)
    have hw2 : wrap64 (s + 2) = s + 2 := IntWalk.wrap64_in _ (by omega)
    go_enter Try.func30, Try.ntmps30
    go_wp2
    go_ret
    exact ⟨by first | rfl | (simp; done) | (simp; omega), rfl⟩
theorem act_Mark {w : World} {rb ab : Nat} {a : AcS} (h : ActAt w rb ab a) : Calls Try.prog 26 #[.pointer (some ⟨ab, 0, none⟩)] w fun e w' => e = .returned (.int .i64 a.mark) ∧ w = w' := by
  obtain ⟨r0, r1, r2, r3, r4, r5, r6, r7⟩ := h.at_
  go_enter Try.func26, Try.ntmps26
  go_wp2
  go_ret
  exact ⟨rfl, rfl⟩
theorem act_Ok {w : World} {rb ab : Nat} {a : AcS} (h : ActAt w rb ab a) : Calls Try.prog 18 #[.pointer (some ⟨ab, 0, none⟩)] w fun e w' => e = .returned (.bool a.ok) ∧ w = w' := by
  obtain ⟨r0, r1, r2, r3, r4, r5, r6, r7⟩ := h.at_
  go_enter Try.func18, Try.ntmps18
  go_wp2
  go_ret
  exact ⟨by first | rfl | (simp; done), rfl⟩
theorem act_Value {w : World} {rb ab : Nat} {a : AcS} (h : ActAt w rb ab a) : Calls Try.prog 19 #[.pointer (some ⟨ab, 0, none⟩)] w fun e w' => e = .returned (.int .u64 (if a.ok = true then a.num else 0)) ∧ w = w' := by
  have HO := Lib.hid (act_Ok h)
  obtain ⟨r0, r1, r2, r3, r4, r5, r6, r7⟩ := h.at_
  generalize a.ok = z at *
  generalize a.num = x at *
  clear h r0 r1 r2 r3 r5 r6 r7
  cases z
  · rw [if_neg (by simp)]
    go_enter Try.func19, Try.ntmps19
    go_wp2_with fail
    refine (HO.out).mono ?_
    rintro e w1 ⟨rfl, rfl⟩
    go_wp2
    go_ret
    exact ⟨rfl, rfl⟩
  · rw [if_pos rfl]
    go_enter Try.func19, Try.ntmps19
    go_wp2_with fail
    refine (HO.out).mono ?_
    rintro e w1 ⟨rfl, rfl⟩
    go_wp2
    go_ret
    exact ⟨rfl, rfl⟩
theorem act_Over0 (w : World) : Calls Try.prog 25 #[.pointer none] w fun e w' => e = .returned (.bool true) ∧ w = w' := by
  go_enter Try.func25, Try.ntmps25
  go_wp2
  go_ret
  exact ⟨by first | rfl | (simp; done), rfl⟩
theorem act_Mark0 (w : World) : Calls Try.prog 26 #[.pointer none] w fun e w' => e = .returned (.int .i64 0) ∧ w = w' := by
  go_enter Try.func26, Try.ntmps26
  go_wp2
  go_ret
  exact ⟨by first | rfl | (simp; done), rfl⟩
theorem act_Ok0 (w : World) : Calls Try.prog 18 #[.pointer none] w fun e w' => e = .returned (.bool false) ∧ w = w' := by
  go_enter Try.func18, Try.ntmps18
  go_wp2
  go_ret
  exact ⟨by first | rfl | (simp; done), rfl⟩
theorem act_StepN (w : World) : Calls Try.prog 28 #[.pointer none] w fun e w' => e = .returned (.bool true) ∧ w = w' := by
  go_enter Try.func28, Try.ntmps28
  go_wp2_with fail
  refine (act_Over0 _).mono ?_
  rintro e w1 ⟨rfl, rfl⟩
  go_wp2
  go_ret
  exact ⟨rfl, rfl⟩
theorem act_Value0 (w : World) : Calls Try.prog 19 #[.pointer none] w fun e w' => e = .returned (.int .u64 0) ∧ w = w' := by
  go_enter Try.func19, Try.ntmps19
  go_wp2_with fail
  refine (act_Ok0 _).mono ?_
  rintro e w1 ⟨rfl, rfl⟩
  go_wp2
  go_ret
  exact ⟨rfl, rfl⟩

theorem ring_Push {w : World} {lo b rb : Nat} {g : RgS} (h : RingAt w lo b rb g) (hz : g.pu = false) (v : Int) :
    Calls Try.prog 20 #[.pointer (some ⟨rb, 0, none⟩), .int .u64 v] w fun e w' => e = .returned (.pointer (some ⟨w.heap.size, 0, none⟩)) ∧ RingAt w' lo b rb { g with pu := true } ∧ ActAt w' rb w.heap.size ⟨true, 1, 0, v, false, 0⟩ ∧ Tch (fun k => k = rb) w w' := by
  have HS := Lib.hid (ring_Size h)
  obtain ⟨s0, s1, s2, s3, s4, s5, s6⟩ := h.at_
  have hlt := h.lt
  have HR : Hid (∀ o, RingAt ((w.setCell ⟨rb, 4, none⟩ (.bool true)).alloc o) lo b rb { g with pu := true }) := fun o => (h.setPu true).below ((Below.refl _ _).alloc (Nat.le_refl _) o)
  have HT : Hid (∀ o, Tch (fun k => k = rb) w ((w.setCell ⟨rb, 4, none⟩ (.bool true)).alloc o)) := fun o => ((Tch.refl (fun k => k = rb) w).setCell (p := ⟨rb, 4, none⟩) rfl _).alloc o
  have HA : Hid (ActAt ((w.setCell ⟨rb, 4, none⟩ (.bool true)).alloc (.cells #[.pointer (some ⟨rb, 0, none⟩), .bool true, .int .i64 1, .int .u64 0, .int .u64 v, .bool false, .int .i64 0] 86)) rb w.heap.size ⟨true, 1, 0, v, false, 0⟩) := by
    have := World.rowIs_alloc (w.setCell ⟨rb, 4, none⟩ (.bool true)) #[.pointer (some ⟨rb, 0, none⟩), .bool true, .int .i64 1, .int .u64 0, .int .u64 v, .bool false, .int .i64 0] 86 (actF rb ⟨true, 1, 0, v, false, 0⟩) (fun i hi => by
      match i, hi with
      | 0, _ => rfl
      | 1, _ => rfl
      | 2, _ => rfl
      | 3, _ => rfl
      | 4, _ => rfl
      | 5, _ => rfl
      | 6, _ => rfl)
    have e : ∀ p v, (w.setCell p v).heap.size = w.heap.size := fun p v => by simp [World.setCell]
    rw [e] at this
    exact this
  have hzn : ((g.sz : Int) == 0) = false := by have := h.fits.one; simp; omega
  rw [hz] at s4
  clear h hz
  go_enter Try.func20, Try.ntmps20
  go_wp2_with fail
  refine (HS.out).mono ?_
  rintro e w1 ⟨rfl, rfl⟩
  go_wp2
  go_ret
  exact ⟨by first | rfl | (simp; done), HR.out _, HA.out, HT.out _⟩
theorem ring_PushBusy {w : World} {lo b rb : Nat} {g : RgS} (h : RingAt w lo b rb g) (hz : g.pu = true) (v : Int) :
    Calls Try.prog 20 #[.pointer (some ⟨rb, 0, none⟩), .int .u64 v] w fun e w' => e = .returned (.pointer none) ∧ w = w' := by
  have HS := Lib.hid (ring_Size h)
  obtain ⟨s0, s1, s2, s3, s4, s5, s6⟩ := h.at_
  have hzn : ((g.sz : Int) == 0) = false := by have := h.fits.one; simp; omega
  rw [hz] at s4
  clear h hz
  go_enter Try.func20, Try.ntmps20
  go_wp2_with fail
  refine (HS.out).mono ?_
  rintro e w1 ⟨rfl, rfl⟩
  go_wp2
  go_ret
  exact ⟨rfl, rfl⟩
theorem ring_Push0 (v : Int) (w : World) : Calls Try.prog 20 #[.pointer none, .int .u64 v] w fun e w' => e = .returned (.pointer none) ∧ w = w' := by
  go_enter Try.func20, Try.ntmps20
  go_wp2_with fail
  refine (ring_Size0 _).mono ?_
  rintro e w1 ⟨rfl, rfl⟩
  go_wp2
  go_ret
  exact ⟨rfl, rfl⟩

theorem ring_Pop {w : World} {lo b rb : Nat} {g : RgS} (h : RingAt w lo b rb g) (hz : g.po = false) :
    Calls Try.prog 15 #[.pointer (some ⟨rb, 0, none⟩)] w fun e w' => e = .returned (.pointer (some ⟨w.heap.size, 0, none⟩)) ∧ RingAt w' lo b rb { g with po := true } ∧ ActAt w' rb w.heap.size ⟨false, 1, 0, 0, false, 0⟩ ∧ Tch (fun k => k = rb) w w' := by
  have HS := Lib.hid (ring_Size h)
  obtain ⟨s0, s1, s2, s3, s4, s5, s6⟩ := h.at_
  have hlt := h.lt
  have HR : Hid (∀ o, RingAt ((w.setCell ⟨rb, 5, none⟩ (.bool true)).alloc o) lo b rb { g with po := true }) := fun o => (h.setPo true).below ((Below.refl _ _).alloc (Nat.le_refl _) o)
  have HT : Hid (∀ o, Tch (fun k => k = rb) w ((w.setCell ⟨rb, 5, none⟩ (.bool true)).alloc o)) := fun o => ((Tch.refl (fun k => k = rb) w).setCell (p := ⟨rb, 5, none⟩) rfl _).alloc o
  have HA : Hid (ActAt ((w.setCell ⟨rb, 5, none⟩ (.bool true)).alloc (.cells #[.pointer (some ⟨rb, 0, none⟩), .bool false, .int .i64 1, .int .u64 0, .int .u64 0, .bool false, .int .i64 0] 86)) rb w.heap.size ⟨false, 1, 0, 0, false, 0⟩) := by
    have := World.rowIs_alloc (w.setCell ⟨rb, 5, none⟩ (.bool true)) #[.pointer (some ⟨rb, 0, none⟩), .bool false, .int .i64 1, .int .u64 0, .int .u64 0, .bool false, .int .i64 0] 86 (actF rb ⟨false, 1, 0, 0, false, 0⟩) (fun i hi => by
      match i, hi with
      | 0, _ => rfl
      | 1, _ => rfl
      | 2, _ => rfl
      | 3, _ => rfl
      | 4, _ => rfl
      | 5, _ => rfl
      | 6, _ => rfl)
    have e : ∀ p v, (w.setCell p v).heap.size = w.heap.size := fun p v => by simp [World.setCell]
    rw [e] at this
    exact this
  have hzn : ((g.sz : Int) == 0) = false := by have := h.fits.one; simp; omega
  rw [hz] at s5
  clear h hz
  go_enter Try.func15, Try.ntmps15
  go_wp2_with fail
  refine (HS.out).mono ?_
  rintro e w1 ⟨rfl, rfl⟩
  go_wp2
  go_ret
  exact ⟨by first | rfl | (simp; done), HR.out _, HA.out, HT.out _⟩
theorem ring_PopBusy {w : World} {lo b rb : Nat} {g : RgS} (h : RingAt w lo b rb g) (hz : g.po = true) :
    Calls Try.prog 15 #[.pointer (some ⟨rb, 0, none⟩)] w fun e w' => e = .returned (.pointer none) ∧ w = w' := by
  have HS := Lib.hid (ring_Size h)
  obtain ⟨s0, s1, s2, s3, s4, s5, s6⟩ := h.at_
  have hzn : ((g.sz : Int) == 0) = false := by have := h.fits.one; simp; omega
  rw [hz] at s5
  clear h hz
  go_enter Try.func15, Try.ntmps15
  go_wp2_with fail
  refine (HS.out).mono ?_
  rintro e w1 ⟨rfl, rfl⟩
  go_wp2
  go_ret
  exact ⟨rfl, rfl⟩
theorem ring_Pop0 (w : World) : Calls Try.prog 15 #[.pointer none] w fun e w' => e = .returned (.pointer none) ∧ w = w' := by
  go_enter Try.func15, Try.ntmps15
  go_wp2_with fail
  refine (ring_Size0 _).mono ?_
  rintro e w1 ⟨rfl, rfl⟩
  go_wp2
  go_ret
  exact ⟨rfl, rfl⟩
end Go.Proofs.Ytpojnknhmpmhjaa
