/-
  A ring's calls, the program's own: its sizes, its counters, its places, and what an act knows. No statement is proved here.
-/
import Derived.Test.YtpojnknhmpmhjaaRgA
import Derived.Test.YtpojnknhmpmhjaaMemN
import Derived.WalkKit
import Derived.Deep.QuietTactic
set_option linter.unusedVariables false
namespace Go.Proofs.Ytpojnknhmpmhjaa
open Go.RowKit

theorem ring_Size {w : World} {lo b rb : Nat} {g : RgS} (h : RingAt w lo b rb g) :
    Calls Try.prog 14 #[.pointer (some ⟨rb, 0, none⟩)] w fun e w' => e = .returned (.int .i64 (g.sz : Nat)) ∧ w = w' := by
  obtain ⟨r0, r1, r2, r3, r4, r5, r6⟩ := h.at_
  go_enter Try.func14, Try.ntmps14
  go_wp2
  go_ret
  exact ⟨rfl, rfl⟩
theorem ring_Size0 (w : World) :
    Calls Try.prog 14 #[.pointer none] w fun e w' => e = .returned (.int .i64 0) ∧ w = w' := by
  go_enter Try.func14, Try.ntmps14
  go_wp2
  go_ret
  exact ⟨rfl, rfl⟩
theorem act_Over {w : World} {rb ab : Nat} {a : AcS} (h : ActAt w rb ab a) :
    Calls Try.prog 25 #[.pointer (some ⟨ab, 0, none⟩)] w fun e w' => e = .returned (.bool (decide (a.stage = 0))) ∧ w = w' := by
  obtain ⟨r0, r1, r2, r3, r4, r5, r6, r7⟩ := h.at_
  have hd : ((a.stage : Int) == 0) = decide (a.stage = 0) := by
    by_cases h : a.stage = 0 <;> simp [h]
  obtain ⟨z, hz⟩ : ∃ z, z = decide (a.stage = 0) := ⟨_, rfl⟩
  rw [← hz] at hd ⊢
  clear hz
  generalize a.stage = sg at *
  clear r0 r1 r3 r4 r5 r6 r7 h
  go_enter Try.func25, Try.ntmps25
  go_wp2
  go_ret
  exact ⟨rfl, rfl⟩
theorem act_own {w : World} {lo b rb ab : Nat} {g : RgS} {a : AcS} (hr : RingAt w lo b rb g) (h : ActAt w rb ab a) :
    Calls Try.prog 52 #[.pointer (some ⟨ab, 0, none⟩)] w fun e w' => e = .returned (.int .i64 (ownN g a.puts : Nat)) ∧ w = w' := by
  obtain ⟨s0, s1, s2, s3, s4, s5, s6⟩ := hr.at_
  obtain ⟨r0, r1, r2, r3, r4, r5, r6, r7⟩ := h.at_
  have hf := hr.fits
  have h1 : g.ba ≤ 1048576 := by have := hf.cells; have := hf.mem; omega
  have h0 : (0 : Int) ≤ (g.ba : Int) := Int.natCast_nonneg _
  clear s0 s2 s3 s4 s5 s6 r2 r3 r4 r5 r6 r7 h hr hf
  unfold ownN
  generalize g.ba = x at *
  generalize a.puts = pt at *
  cases pt
  · go_enter Try.func52, Try.ntmps52
    go_wp2
    go_ret
    exact ⟨by first | rfl | (simp; done), rfl⟩
  · go_enter Try.func52, Try.ntmps52
    go_wp2
    go_ret
    exact ⟨by first | rfl | (simp; done), rfl⟩
theorem ring_waiting {w : World} {lo b rb : Nat} {g : RgS} (h : RingAt w lo b rb g) (x y : Int) :
    Calls Try.prog 48 #[.pointer (some ⟨rb, 0, none⟩), .int .u64 x, .int .u64 y] w fun e w' => e = .returned (.int .i64 (waitN g.sz x y)) ∧ w = w' := by
  obtain ⟨r0, r1, r2, r3, r4, r5, r6⟩ := h.at_
  have hz := h.fits.most
  have hz1 := h.fits.one
  clear r0 r1 r3 r4 r5 r6 h
  have hw : IntKind.u64.wrap (x - y) = dif x y := IntKind.wrap_u64 _
  have hd0 := dif_nonneg x y
  have hd1 := dif_lt x y
  have hwn : waitN g.sz x y = if dif x y < (g.sz : Int) then dif x y else (g.sz : Int) := rfl
  generalize waitN g.sz x y = W at *
  generalize dif x y = d at *
  generalize g.sz = n at *
  by_cases hlt : d < (n : Int)
  · rw [if_pos hlt] at hwn
    subst hwn
    have h1 : ¬ (n : Int) < W := by omega
    have h2 : W ≤ (n : Int) := by omega
    go_enter Try.func48, Try.ntmps48
    go_wp2
    go_ret
    exact ⟨by first | rfl | (simp; done), rfl⟩
  · rw [if_neg hlt] at hwn
    subst hwn
    go_enter Try.func48, Try.ntmps48
    go_wp2
    all_goals go_ret
    all_goals first
      | exact ⟨rfl, rfl⟩
      | (refine ⟨?_, rfl⟩
         have he : d = (n : Int) := by omega
         subst he
         rfl)
theorem place_num (ba n k : Nat) (h1 : ba ≤ 1048576) (hz1 : 1 ≤ n) (hz : n ≤ 64) :
    (n : Int) ≠ 0 ∧ IntKind.u64.wrap (n : Int) = (n : Int) ∧ (k : Int).tmod (n : Int) = ((k % n : Nat) : Int) ∧ wrap64 ((k % n : Nat) : Int) = ((k % n : Nat) : Int) ∧ IntKind.u64.wrap ((k % n : Nat) : Int) = ((k % n : Nat) : Int) ∧
      wrap64 ((ba : Int) + 2) = ((ba + 2 : Nat) : Int) ∧ wrap64 (((ba + 2 : Nat) : Int) + ((k % n : Nat) : Int)) = ((ba + 2 + k % n : Nat) : Int) := by
  have hmod : k % n < n := Nat.mod_lt _ (by omega)
  refine ⟨by omega, by rw [IntKind.wrap_u64]; omega, by rw [Int.ofNat_tmod], IntWalk.wrap64_in _ (by omega), by rw [IntKind.wrap_u64]; omega, ?_, ?_⟩
  · rw [show (ba : Int) + 2 = ((ba + 2 : Nat) : Int) by omega]; exact IntWalk.wrap64_in _ (by omega)
  · rw [show ((ba + 2 : Nat) : Int) + ((k % n : Nat) : Int) = ((ba + 2 + k % n : Nat) : Int) by omega]; exact IntWalk.wrap64_in _ (by omega)
theorem ring_place {w : World} {lo b rb : Nat} {g : RgS} (h : RingAt w lo b rb g) (x : Int) :
    Calls Try.prog 50 #[.pointer (some ⟨rb, 0, none⟩), .int .u64 x] w (Quiet (.int .i64 (placeN g x : Nat)) w) := by
  obtain ⟨r0, r1, r2, r3, r4, r5, r6⟩ := h.at_
  have hw : IntKind.u64.wrap (x - g.st) = dif x g.st := IntKind.wrap_u64 _
  obtain ⟨k, hk⟩ := Int.eq_ofNat_of_zero_le (dif_nonneg x g.st)
  have hpn : placeN g x = g.ba + 2 + k % g.sz := by unfold placeN; rw [hk, Int.toNat_natCast]
  rw [hk] at hw
  obtain ⟨a1, a2, a3, a4, a5, a6, a7⟩ := place_num g.ba g.sz k (by have := h.fits.cells; have := h.fits.mem; omega) h.fits.one h.fits.most
  rw [← hpn] at a7
  clear r0 r4 r5 r6 h hpn hk
  generalize placeN g x = W at *
  generalize g.sz = n at *
  generalize g.ba + 2 = ba2 at *
  generalize g.ba = ba at *
  generalize g.st = st at *
  generalize k % n = r at *
  go_enter Try.func50, Try.ntmps50
  go_wp2_with fail
  go_quiet (fail)
  go_wp2
  go_ret
  exact ⟨by simp; exact a7, _, rfl⟩
end Go.Proofs.Ytpojnknhmpmhjaa
