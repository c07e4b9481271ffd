/-
  Contracts of layer 6's calls, the program's own: what each answers, and how cells and locks stand then. No statement is proved here.
-/
import Derived.Test.YtpojnknhmpmhjaaMemA
import Derived.WalkKit
set_option linter.unusedVariables false
namespace Go.Proofs.Ytpojnknhmpmhjaa
open Go.RowKit

theorem mem_Cells {w : World} {lo b : Nat} {s : MemS} (hm : MemAt w 81 lo b s) :
    Calls Try.prog 46 #[.pointer (some ⟨b, 0, none⟩)] w fun e w' => e = .returned (.int .i64 (s.C : Int)) ∧ w = w' := by
  obtain ⟨bc, bl, hm⟩ := hm
  obtain ⟨h0, h1, h2, h3⟩ := hm.at_
  go_enter Try.func46, Try.ntmps46
  go_wp2
  go_ret
  exact ⟨rfl, rfl⟩

theorem mem_Time {w : World} {lo b : Nat} {s : MemS} (hm : MemAt w 81 lo b s) :
    Calls Try.prog 27 #[.pointer (some ⟨b, 0, none⟩)] w fun e w' => e = .returned (.int .i64 s.t) ∧ w = w' := by
  obtain ⟨bc, bl, hm⟩ := hm
  obtain ⟨h0, h1, h2, h3⟩ := hm.at_
  go_enter Try.func27, Try.ntmps27
  go_wp2
  go_ret
  exact ⟨rfl, rfl⟩

theorem mem_hasCell (i : Int) {w : World} {lo b : Nat} {s : MemS} (hm : MemAt w 81 lo b s) :
    Calls Try.prog 62 #[.pointer (some ⟨b, 0, none⟩), .int .i64 i] w fun e w' => e = .returned (.bool (hasC s i)) ∧ w = w' := by
  have HC := Lib.hid (mem_Cells hm)
  obtain ⟨bc, bl, hm⟩ := hm
  obtain ⟨h0, h1, h2, h3⟩ := hm.at_
  have hb := hm.cb
  unfold hasC
  clear hm
  by_cases hi : 0 ≤ i
  · have hd : decide (0 ≤ i) = true := by simpa using hi
    go_enter Try.func62, Try.ntmps62
    go_wp2_with fail
    refine (HC.out).mono ?_
    rintro e w1 ⟨rfl, rfl⟩
    go_wp2
    go_ret
    exact ⟨ret_bool (by simp [hi]), rfl⟩
  · have hd : decide (0 ≤ i) = false := by simpa using hi
    go_enter Try.func62, Try.ntmps62
    go_wp2
    go_ret
    exact ⟨ret_bool (by simp), rfl⟩

theorem mem_Peek (i : Int) {w : World} {lo b : Nat} {s : MemS} (hm : MemAt w 81 lo b s) :
    Calls Try.prog 49 #[.pointer (some ⟨b, 0, none⟩), .int .i64 i] w fun e w' => e = .returned (.int .u64 (peekS s i)) ∧ w = w' := by
  have HH := mem_hasCell i hm
  obtain ⟨bc, bl, hm⟩ := hm
  obtain ⟨h0, h1, h2, h3⟩ := hm.at_
  unfold peekS
  cases hc : hasC s i
  · rw [hc] at HH
    rw [if_neg (by simp)]
    have HH := Lib.hid HH
    clear hc hm
    go_enter Try.func49, Try.ntmps49
    go_wp2_with fail
    refine (HH.out).mono ?_
    rintro e w1 ⟨rfl, rfl⟩
    go_wp2
    go_ret
    exact ⟨rfl, rfl⟩
  · rw [hc] at HH
    rw [if_pos rfl]
    have HH := Lib.hid HH
    obtain ⟨hi0, hi1⟩ := hasC_iff.1 hc
    obtain ⟨k, rfl⟩ := Int.eq_ofNat_of_zero_le hi0
    rw [Int.toNat_natCast]
    obtain ⟨hk1, hk2⟩ := hm.c_at (k := k) (by omega)
    have hcb := hm.cb
    have hlb := hm.lb
    clear hc hm
    go_enter Try.func49, Try.ntmps49
    go_wp2_with fail
    refine (HH.out).mono ?_
    rintro e w1 ⟨rfl, rfl⟩
    go_wp2
    go_ret
    exact ⟨rfl, rfl⟩

set_option maxHeartbeats 800000 in
theorem mem_Load (i : Int) {w : World} {lo b : Nat} {s : MemS} (hm : MemAt w 81 lo b s) (ht : s.t ≤ 4611686018427387904) :
    Calls Try.prog 51 #[.pointer (some ⟨b, 0, none⟩), .int .i64 i] w (MemDid 81 lo b (loadS s i) (.int .u64 (peekS s i)) w) := by
  have HH := mem_hasCell i hm
  obtain ⟨bc, bl, hm⟩ := hm
  obtain ⟨h0, h1, h2, h3⟩ := hm.at_
  have HM := Lib.hid hm
  unfold peekS loadS
  cases hc : hasC s i
  · rw [hc] at HH
    rw [if_neg (by simp), if_neg (by simp)]
    have HH := Lib.hid HH
    clear hc hm
    go_enter Try.func51, Try.ntmps51
    go_wp2_with fail
    refine (HH.out).mono ?_
    rintro e w1 ⟨rfl, rfl⟩
    go_wp2
    go_ret
    exact ⟨rfl, ⟨bc, bl, HM.out⟩, Touch.refl _ _⟩
  · rw [hc] at HH
    rw [if_pos rfl, if_pos rfl]
    have HH := Lib.hid HH
    obtain ⟨hi0, hi1⟩ := hasC_iff.1 hc
    obtain ⟨k, rfl⟩ := Int.eq_ofNat_of_zero_le hi0
    rw [Int.toNat_natCast]
    have hk : k < s.C := by omega
    have HT := Lib.hid hm.tick
    obtain ⟨hk1, hk2⟩ := hm.tick.c_at (k := k) hk
    obtain ⟨g0, g1, g2, g3⟩ := hm.tick.at_
    have hb1 := hm.b1
    have hb2 := hm.b2
    have hcb := hm.cb
    have ht0 := hm.t0
    change World.cell? _ ⟨b, 0, none⟩ = some (.slice (some ⟨bc, 0, none⟩) s.C s.C) at g0
    change World.cell? _ ⟨bc, k, none⟩ = some (.int .u64 (s.c k)) at hk1
    clear hc hm g1 g2 g3 hk2
    go_enter Try.func51, Try.ntmps51
    go_wp2_with fail
    refine (HH.out).mono ?_
    rintro e w1 ⟨rfl, rfl⟩
    go_wp2
    go_ret
    exact ⟨rfl, ⟨bc, bl, HT.out⟩, (Touch.refl _ _).setCell hb1 hb2 _⟩
set_option maxHeartbeats 800000 in
theorem mem_Store (i v : Int) {w : World} {lo b : Nat} {s : MemS} (hm : MemAt w 81 lo b s) (ht : s.t ≤ 4611686018427387904) :
    Calls Try.prog 47 #[.pointer (some ⟨b, 0, none⟩), .int .i64 i, .int .u64 v] w (MemDid 81 lo b (storeS s i v) (.tuple #[]) w) := by
  have HH := mem_hasCell i hm
  obtain ⟨bc, bl, hm⟩ := hm
  obtain ⟨h0, h1, h2, h3⟩ := hm.at_
  have HM := Lib.hid hm
  unfold storeS
  cases hc : hasC s i
  · rw [hc] at HH
    rw [if_neg (by simp)]
    have HH := Lib.hid HH
    clear hc hm
    go_enter Try.func47, Try.ntmps47
    go_wp2_with fail
    refine (HH.out).mono ?_
    rintro e w1 ⟨rfl, rfl⟩
    go_wp2
    go_end0
    exact ⟨rfl, ⟨bc, bl, HM.out⟩, Touch.refl _ _⟩
  · rw [hc] at HH
    rw [if_pos rfl]
    have HH := Lib.hid HH
    obtain ⟨hi0, hi1⟩ := hasC_iff.1 hc
    obtain ⟨k, rfl⟩ := Int.eq_ofNat_of_zero_le hi0
    rw [Int.toNat_natCast]
    have hk : k < s.C := by omega
    have HT := Lib.hid (hm.tick.putC k v)
    obtain ⟨hk1, hk2⟩ := hm.tick.c_at (k := k) hk
    obtain ⟨g0, g1, g2, g3⟩ := hm.tick.at_
    have hb1 := hm.b1
    have hb2 := hm.b2
    have hc1 := hm.c1
    have hc2 := hm.c2
    have hcb := hm.cb
    have ht0 := hm.t0
    change World.cell? _ ⟨b, 0, none⟩ = some (.slice (some ⟨bc, 0, none⟩) s.C s.C) at g0
    change World.cell? _ ⟨bc, k, none⟩ = some (.int .u64 (s.c k)) at hk1
    clear hc hm g1 g2 g3
    go_enter Try.func47, Try.ntmps47
    go_wp2_with fail
    refine (HH.out).mono ?_
    rintro e w1 ⟨rfl, rfl⟩
    go_wp2
    go_end0
    exact ⟨rfl, ⟨bc, bl, HT.out⟩, ((Touch.refl _ _).setCell hb1 hb2 _).setCell hc1 hc2 _⟩

def handB (s : MemS) (l fr : Int) : Bool := hasL s l && decide (s.h l.toNat = fr)
def handS (s : MemS) (l fr to : Int) : MemS := if hasL s l = true then (if s.h l.toNat = fr then putL (tickS s) l.toNat to else tickS s) else s

end Go.Proofs.Ytpojnknhmpmhjaa
