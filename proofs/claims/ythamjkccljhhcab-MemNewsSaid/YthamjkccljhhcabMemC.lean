/-
  Contracts of layer 6's calls, the document's: what each answers, and how cells and locks stand then. No statement is proved here.
-/
import Derived.Test.YthamjkccljhhcabMemA
import Derived.WalkKit
set_option linter.unusedVariables false
namespace Go.Proofs.Ythamjkccljhhcab
open Go.RowKit

theorem ref6_cell (i : Int) {w : World} {lo b : Nat} {s : MemS} (hm : MemAt w 39 lo b s) :
    Calls Try.prog 46 #[.pointer (some ⟨b, 0, none⟩), .int .i64 i] w fun e w' => e = .returned (.bool (hasC s i)) ∧ w = w' := by
  obtain ⟨bc, bl, hm⟩ := hm
  obtain ⟨h0, h1, h2, h3⟩ := hm.at_
  have hb := hm.cb
  unfold hasC
  clear hm
  by_cases hi : 0 ≤ i
  · have hd : decide (0 ≤ i) = true := by simpa using hi
    go_enter Try.func46, Try.ntmps46
    go_wp2
    go_ret
    exact ⟨ret_bool (by simp [hi]), rfl⟩
  · have hd : decide (0 ≤ i) = false := by simpa using hi
    go_enter Try.func46, Try.ntmps46
    go_wp2
    go_ret
    exact ⟨ret_bool (by simp), rfl⟩

theorem ref6_lock (i : Int) {w : World} {lo b : Nat} {s : MemS} (hm : MemAt w 39 lo b s) :
    Calls Try.prog 48 #[.pointer (some ⟨b, 0, none⟩), .int .i64 i] w fun e w' => e = .returned (.bool (hasL s i)) ∧ w = w' := by
  obtain ⟨bc, bl, hm⟩ := hm
  obtain ⟨h0, h1, h2, h3⟩ := hm.at_
  have hb := hm.lb
  unfold hasL
  clear hm
  by_cases hi : 0 ≤ i
  · have hd : decide (0 ≤ i) = true := by simpa using hi
    go_enter Try.func48, Try.ntmps48
    go_wp2
    go_ret
    exact ⟨ret_bool (by simp [hi]), rfl⟩
  · have hd : decide (0 ≤ i) = false := by simpa using hi
    go_enter Try.func48, Try.ntmps48
    go_wp2
    go_ret
    exact ⟨ret_bool (by simp), rfl⟩

theorem ref6_Peek (i : Int) {w : World} {lo b : Nat} {s : MemS} (hm : MemAt w 39 lo b s) :
    Calls Try.prog 21 #[.pointer (some ⟨b, 0, none⟩), .int .i64 i] w fun e w' => e = .returned (.int .u64 (peekS s i)) ∧ w = w' := by
  have HH := ref6_cell i hm
  obtain ⟨bc, bl, hm⟩ := hm
  obtain ⟨h0, h1, h2, h3⟩ := hm.at_
  unfold peekS
  cases hc : hasC s i
  · rw [hc] at HH
    rw [if_neg (by simp)]
    have HH := Lib.hid HH
    clear hc hm
    go_enter Try.func21, Try.ntmps21
    go_wp2_with fail
    refine (HH.out).mono ?_
    rintro e w1 ⟨rfl, rfl⟩
    go_wp2
    go_ret
    exact ⟨rfl, rfl⟩
  · rw [hc] at HH
    rw [if_pos rfl]
    have HH := Lib.hid HH
    obtain ⟨hi0, hi1⟩ := hasC_iff.1 hc
    obtain ⟨k, rfl⟩ := Int.eq_ofNat_of_zero_le hi0
    rw [Int.toNat_natCast]
    obtain ⟨hk1, hk2⟩ := hm.c_at (k := k) (by omega)
    have hcb := hm.cb
    have hlb := hm.lb
    clear hc hm
    go_enter Try.func21, Try.ntmps21
    go_wp2_with fail
    refine (HH.out).mono ?_
    rintro e w1 ⟨rfl, rfl⟩
    go_wp2
    go_ret
    exact ⟨rfl, rfl⟩

theorem ref6_Holder (i : Int) {w : World} {lo b : Nat} {s : MemS} (hm : MemAt w 39 lo b s) :
    Calls Try.prog 23 #[.pointer (some ⟨b, 0, none⟩), .int .i64 i] w fun e w' => e = .returned (.int .i64 (holdS s i)) ∧ w = w' := by
  have HH := ref6_lock i hm
  obtain ⟨bc, bl, hm⟩ := hm
  obtain ⟨h0, h1, h2, h3⟩ := hm.at_
  unfold holdS
  cases hc : hasL s i
  · rw [hc] at HH
    rw [if_neg (by simp)]
    have HH := Lib.hid HH
    clear hc hm
    go_enter Try.func23, Try.ntmps23
    go_wp2_with fail
    refine (HH.out).mono ?_
    rintro e w1 ⟨rfl, rfl⟩
    go_wp2
    go_ret
    exact ⟨rfl, rfl⟩
  · rw [hc] at HH
    rw [if_pos rfl]
    have HH := Lib.hid HH
    obtain ⟨hi0, hi1⟩ := hasL_iff.1 hc
    obtain ⟨k, rfl⟩ := Int.eq_ofNat_of_zero_le hi0
    rw [Int.toNat_natCast]
    obtain ⟨hk1, hk2⟩ := hm.l_at (k := k) (by omega)
    have hcb := hm.cb
    have hlb := hm.lb
    clear hc hm
    go_enter Try.func23, Try.ntmps23
    go_wp2_with fail
    refine (HH.out).mono ?_
    rintro e w1 ⟨rfl, rfl⟩
    go_wp2
    go_ret
    exact ⟨rfl, rfl⟩

set_option maxHeartbeats 800000 in
theorem ref6_Load (i : Int) {w : World} {lo b : Nat} {s : MemS} (hm : MemAt w 39 lo b s) (ht : s.t ≤ 4611686018427387904) :
    Calls Try.prog 41 #[.pointer (some ⟨b, 0, none⟩), .int .i64 i] w (MemDid 39 lo b (loadS s i) (.int .u64 (peekS s i)) w) := by
  have HH := ref6_cell i hm
  obtain ⟨bc, bl, hm⟩ := hm
  obtain ⟨h0, h1, h2, h3⟩ := hm.at_
  have HM := Lib.hid hm
  unfold peekS loadS
  cases hc : hasC s i
  · rw [hc] at HH
    rw [if_neg (by simp), if_neg (by simp)]
    have HH := Lib.hid HH
    clear hc hm
    go_enter Try.func41, Try.ntmps41
    go_wp2_with fail
    refine (HH.out).mono ?_
    rintro e w1 ⟨rfl, rfl⟩
    go_wp2
    go_ret
    exact ⟨rfl, ⟨bc, bl, HM.out⟩, Touch.refl _ _⟩
  · rw [hc] at HH
    rw [if_pos rfl, if_pos rfl]
    have HH := Lib.hid HH
    obtain ⟨hi0, hi1⟩ := hasC_iff.1 hc
    obtain ⟨k, rfl⟩ := Int.eq_ofNat_of_zero_le hi0
    rw [Int.toNat_natCast]
    have hk : k < s.C := by omega
    have HT := Lib.hid hm.tick
    obtain ⟨hk1, hk2⟩ := hm.tick.c_at (k := k) hk
    obtain ⟨g0, g1, g2, g3⟩ := hm.tick.at_
    have hb1 := hm.b1
    have hb2 := hm.b2
    have hcb := hm.cb
    have ht0 := hm.t0
    change World.cell? _ ⟨b, 0, none⟩ = some (.slice (some ⟨bc, 0, none⟩) s.C s.C) at g0
    change World.cell? _ ⟨bc, k, none⟩ = some (.int .u64 (s.c k)) at hk1
    clear hc hm g1 g2 g3 hk2
    go_enter Try.func41, Try.ntmps41
    go_wp2_with fail
    refine (HH.out).mono ?_
    rintro e w1 ⟨rfl, rfl⟩
    go_wp2
    go_ret
    exact ⟨rfl, ⟨bc, bl, HT.out⟩, (Touch.refl _ _).setCell hb1 hb2 _⟩
set_option maxHeartbeats 800000 in
theorem ref6_Store (i v : Int) {w : World} {lo b : Nat} {s : MemS} (hm : MemAt w 39 lo b s) (ht : s.t ≤ 4611686018427387904) :
    Calls Try.prog 42 #[.pointer (some ⟨b, 0, none⟩), .int .i64 i, .int .u64 v] w (MemDid 39 lo b (storeS s i v) (.tuple #[]) w) := by
  have HH := ref6_cell i hm
  obtain ⟨bc, bl, hm⟩ := hm
  obtain ⟨h0, h1, h2, h3⟩ := hm.at_
  have HM := Lib.hid hm
  unfold storeS
  cases hc : hasC s i
  · rw [hc] at HH
    rw [if_neg (by simp)]
    have HH := Lib.hid HH
    clear hc hm
    go_enter Try.func42, Try.ntmps42
    go_wp2_with fail
    refine (HH.out).mono ?_
    rintro e w1 ⟨rfl, rfl⟩
    go_wp2
    go_end0
    exact ⟨rfl, ⟨bc, bl, HM.out⟩, Touch.refl _ _⟩
  · rw [hc] at HH
    rw [if_pos rfl]
    have HH := Lib.hid HH
    obtain ⟨hi0, hi1⟩ := hasC_iff.1 hc
    obtain ⟨k, rfl⟩ := Int.eq_ofNat_of_zero_le hi0
    rw [Int.toNat_natCast]
    have hk : k < s.C := by omega
    have HT := Lib.hid (hm.tick.putC k v)
    obtain ⟨hk1, hk2⟩ := hm.tick.c_at (k := k) hk
    obtain ⟨g0, g1, g2, g3⟩ := hm.tick.at_
    have hb1 := hm.b1
    have hb2 := hm.b2
    have hc1 := hm.c1
    have hc2 := hm.c2
    have hcb := hm.cb
    have ht0 := hm.t0
    change World.cell? _ ⟨b, 0, none⟩ = some (.slice (some ⟨bc, 0, none⟩) s.C s.C) at g0
    change World.cell? _ ⟨bc, k, none⟩ = some (.int .u64 (s.c k)) at hk1
    clear hc hm g1 g2 g3
    go_enter Try.func42, Try.ntmps42
    go_wp2_with fail
    refine (HH.out).mono ?_
    rintro e w1 ⟨rfl, rfl⟩
    go_wp2
    go_end0
    exact ⟨rfl, ⟨bc, bl, HT.out⟩, ((Touch.refl _ _).setCell hb1 hb2 _).setCell hc1 hc2 _⟩

set_option maxHeartbeats 800000 in
theorem ref6_Take1 (l who : Int) (hw : 0 ≤ who) {w : World} {lo b : Nat} {s : MemS} (hm : MemAt w 39 lo b s) (ht : s.t ≤ 4611686018427387904) :
    Calls Try.prog 43 #[.pointer (some ⟨b, 0, none⟩), .int .i64 l, .int .i64 who] w (MemDid 39 lo b (takeS s l who) (.bool (takeB s l who)) w) := by
  have HH := ref6_lock l hm
  obtain ⟨bc, bl, hm⟩ := hm
  obtain ⟨h0, h1, h2, h3⟩ := hm.at_
  have HM := Lib.hid hm
  cases hc : hasL s l
  · rw [hc] at HH
    have e1 : takeB s l who = false := by simp [takeB, okWho, hc]
    have e2 : takeS s l who = s := by simp [takeS, okWho, hc]
    rw [e1, e2]
    have hd : ¬ who < 0 := by omega
    have HH := Lib.hid HH
    clear hc hm
    go_enter Try.func43, Try.ntmps43
    go_wp2_with fail
    refine (HH.out).mono ?_
    rintro e w1 ⟨rfl, rfl⟩
    go_wp2
    go_ret
    exact ⟨rfl, ⟨bc, bl, HM.out⟩, Touch.refl _ _⟩
  · rw [hc] at HH
    have HH := Lib.hid HH
    obtain ⟨hi0, hi1⟩ := hasL_iff.1 hc
    have hd : ¬ who < 0 := by omega
    obtain ⟨k, rfl⟩ := Int.eq_ofNat_of_zero_le hi0
    have hk : k < s.L := by omega
    have HT := Lib.hid hm.tick
    have HT2 := Lib.hid (hm.tick.putL k who (by omega))
    obtain ⟨hk1, hk2⟩ := hm.tick.l_at (k := k) hk
    obtain ⟨g0, g1, g2, g3⟩ := hm.tick.at_
    have hb1 := hm.b1
    have hb2 := hm.b2
    have hc1 := hm.l1
    have hc2 := hm.l2
    have hlb := hm.lb
    have ht0 := hm.t0
    have hhk := hm.hh k
    change World.cell? _ ⟨b, 1, none⟩ = some (.slice (some ⟨bl, 0, none⟩) s.L s.L) at g1
    change World.cell? _ ⟨bl, k, none⟩ = some (.int .i64 (s.h k)) at hk1
    by_cases hq : s.h k = -1
    · have e1 : takeB s (k : Int) who = true := by simp [takeB, okWho, hc, hw, hq]
      have e2 : takeS s (k : Int) who = putL (tickS s) k who := by simp [takeS, okWho, hc, hw, hq]
      rw [e1, e2]
      have hge : ¬ 0 ≤ s.h k := by omega
      have HQ := Lib.hid hq
      clear hc hm g0 g2 g3 hq e1 e2
      go_enter Try.func43, Try.ntmps43
      go_wp2_with fail
      refine (HH.out).mono ?_
      rintro e w1 ⟨rfl, rfl⟩
      go_wp2
      go_ret
      exact ⟨rfl, ⟨bc, bl, HT2.out⟩, ((Touch.refl _ _).setCell hb1 hb2 _).setCell hc1 hc2 _⟩
    · have e1 : takeB s (k : Int) who = false := by simp [takeB, okWho, hc, hw, hq]
      have e2 : takeS s (k : Int) who = tickS s := by simp [takeS, okWho, hc, hw, hq]
      rw [e1, e2]
      have hge : 0 ≤ s.h k := by omega
      clear hc hm g0 g2 g3 hq hk2 e1 e2
      go_enter Try.func43, Try.ntmps43
      go_wp2_with fail
      refine (HH.out).mono ?_
      rintro e w1 ⟨rfl, rfl⟩
      go_wp2
      go_ret
      exact ⟨rfl, ⟨bc, bl, HT.out⟩, (Touch.refl _ _).setCell hb1 hb2 _⟩

theorem ref6_Take (l who : Int) {w : World} {lo b : Nat} {s : MemS} (hm : MemAt w 39 lo b s) (ht : s.t ≤ 4611686018427387904) :
    Calls Try.prog 43 #[.pointer (some ⟨b, 0, none⟩), .int .i64 l, .int .i64 who] w (MemDid 39 lo b (takeS s l who) (.bool (takeB s l who)) w) := by
  by_cases hw : 0 ≤ who
  · exact ref6_Take1 l who hw hm ht
  · have HH := ref6_lock l hm
    have e1 : takeB s l who = false := by simp [takeB, okWho, hw]
    have e2 : takeS s l who = s := by simp [takeS, okWho, hw]
    rw [e1, e2]
    have hd : who < 0 := by omega
    have HM := Lib.hid hm
    clear e1 e2 ht hm
    cases hc : hasL s l
    · rw [hc] at HH
      have HH := Lib.hid HH
      clear hc
      go_enter Try.func43, Try.ntmps43
      go_wp2_with fail
      refine (HH.out).mono ?_
      rintro e w1 ⟨rfl, rfl⟩
      go_wp2
      go_ret
      exact ⟨rfl, HM.out, Touch.refl _ _⟩
    · rw [hc] at HH
      have HH := Lib.hid HH
      clear hc
      go_enter Try.func43, Try.ntmps43
      go_wp2_with fail
      refine (HH.out).mono ?_
      rintro e w1 ⟨rfl, rfl⟩
      go_wp2
      go_ret
      exact ⟨rfl, HM.out, Touch.refl _ _⟩

set_option maxHeartbeats 800000 in
theorem ref6_Free1 (l who : Int) (hw : 0 ≤ who) {w : World} {lo b : Nat} {s : MemS} (hm : MemAt w 39 lo b s) (ht : s.t ≤ 4611686018427387904) :
    Calls Try.prog 44 #[.pointer (some ⟨b, 0, none⟩), .int .i64 l, .int .i64 who] w (MemDid 39 lo b (freeS s l who) (.bool (freeB s l who)) w) := by
  have HH := ref6_lock l hm
  obtain ⟨bc, bl, hm⟩ := hm
  obtain ⟨h0, h1, h2, h3⟩ := hm.at_
  have HM := Lib.hid hm
  cases hc : hasL s l
  · rw [hc] at HH
    have e1 : freeB s l who = false := by simp [freeB, okWho, hc]
    have e2 : freeS s l who = s := by simp [freeS, okWho, hc]
    rw [e1, e2]
    have hd : ¬ who < 0 := by omega
    have HH := Lib.hid HH
    clear hc hm
    go_enter Try.func44, Try.ntmps44
    go_wp2_with fail
    refine (HH.out).mono ?_
    rintro e w1 ⟨rfl, rfl⟩
    go_wp2
    go_ret
    exact ⟨rfl, ⟨bc, bl, HM.out⟩, Touch.refl _ _⟩
  · rw [hc] at HH
    have HH := Lib.hid HH
    obtain ⟨hi0, hi1⟩ := hasL_iff.1 hc
    have hd : ¬ who < 0 := by omega
    obtain ⟨k, rfl⟩ := Int.eq_ofNat_of_zero_le hi0
    have hk : k < s.L := by omega
    have HT := Lib.hid hm.tick
    have HT2 := Lib.hid (hm.tick.putL k (-1) (by omega))
    obtain ⟨hk1, hk2⟩ := hm.tick.l_at (k := k) hk
    obtain ⟨g0, g1, g2, g3⟩ := hm.tick.at_
    have hb1 := hm.b1
    have hb2 := hm.b2
    have hc1 := hm.l1
    have hc2 := hm.l2
    have hlb := hm.lb
    have ht0 := hm.t0
    have hhk := hm.hh k
    change World.cell? _ ⟨b, 1, none⟩ = some (.slice (some ⟨bl, 0, none⟩) s.L s.L) at g1
    change World.cell? _ ⟨bl, k, none⟩ = some (.int .i64 (s.h k)) at hk1
    by_cases hq : s.h k = who
    · have e1 : freeB s (k : Int) who = true := by simp [freeB, okWho, hc, hw, hq]
      have e2 : freeS s (k : Int) who = putL (tickS s) k (-1) := by simp [freeS, okWho, hc, hw, hq]
      rw [e1, e2]
      have hne : (s.h k != who) = false := by simp [hq]
      have HQ := Lib.hid hq
      clear hc hm g0 g2 g3 hq e1 e2
      go_enter Try.func44, Try.ntmps44
      go_wp2_with fail
      refine (HH.out).mono ?_
      rintro e w1 ⟨rfl, rfl⟩
      go_wp2
      go_ret
      exact ⟨rfl, ⟨bc, bl, HT2.out⟩, ((Touch.refl _ _).setCell hb1 hb2 _).setCell hc1 hc2 _⟩
    · have e1 : freeB s (k : Int) who = false := by simp [freeB, okWho, hc, hw, hq]
      have e2 : freeS s (k : Int) who = tickS s := by simp [freeS, okWho, hc, hw, hq]
      rw [e1, e2]
      have hne : (s.h k != who) = true := by simp [hq]
      clear hc hm g0 g2 g3 hq hk2 e1 e2
      go_enter Try.func44, Try.ntmps44
      go_wp2_with fail
      refine (HH.out).mono ?_
      rintro e w1 ⟨rfl, rfl⟩
      go_wp2
      go_ret
      exact ⟨rfl, ⟨bc, bl, HT.out⟩, (Touch.refl _ _).setCell hb1 hb2 _⟩

theorem ref6_Free (l who : Int) {w : World} {lo b : Nat} {s : MemS} (hm : MemAt w 39 lo b s) (ht : s.t ≤ 4611686018427387904) :
    Calls Try.prog 44 #[.pointer (some ⟨b, 0, none⟩), .int .i64 l, .int .i64 who] w (MemDid 39 lo b (freeS s l who) (.bool (freeB s l who)) w) := by
  by_cases hw : 0 ≤ who
  · exact ref6_Free1 l who hw hm ht
  · have HH := ref6_lock l hm
    have e1 : freeB s l who = false := by simp [freeB, okWho, hw]
    have e2 : freeS s l who = s := by simp [freeS, okWho, hw]
    rw [e1, e2]
    have hd : who < 0 := by omega
    have HM := Lib.hid hm
    clear e1 e2 ht hm
    cases hc : hasL s l
    · rw [hc] at HH
      have HH := Lib.hid HH
      clear hc
      go_enter Try.func44, Try.ntmps44
      go_wp2_with fail
      refine (HH.out).mono ?_
      rintro e w1 ⟨rfl, rfl⟩
      go_wp2
      go_ret
      exact ⟨rfl, HM.out, Touch.refl _ _⟩
    · rw [hc] at HH
      have HH := Lib.hid HH
      clear hc
      go_enter Try.func44, Try.ntmps44
      go_wp2_with fail
      refine (HH.out).mono ?_
      rintro e w1 ⟨rfl, rfl⟩
      go_wp2
      go_ret
      exact ⟨rfl, HM.out, Touch.refl _ _⟩
end Go.Proofs.Ythamjkccljhhcab
