/-
  What layer 11's told says. No statement is proved here.
-/
import Derived.Test.YtccnfcjaehcfkaaBkF
set_option linter.unusedVariables false
namespace Go.Proofs.Ytccnfcjaehcfkaa
open Go.RowKit

theorem hom_one (v : Int) (m : Nat) : homeN v m 1 1 = 0 := by
  have h := (home_in (v := v) (m := m) (S := 1) (B := 1) (by omega) (by omega)).2
  omega
def R1 : Nat → Pl := (putF (fun _ => ownP pl0) ⟨1, 2, 3, false, 5⟩ 5 1).1
def R2 : Nat → Pl := (putF (fun i => ownP (R1 i)) ⟨1, 4, 1, false, 6⟩ 6 1).1
def g1 : Nat → Nat → Pl := updR (fun _ _ => pl0) 0 R1
def g2 : Nat → Nat → Pl := updR g1 0 R2
theorem t11a : (putF (fun _ => ownP pl0) ⟨1, 2, 3, false, 5⟩ 5 1).2 = 3 := by decide +kernel
theorem t11b : (putF (fun i => ownP (R1 i)) ⟨1, 4, 1, false, 6⟩ 6 1).2 = 4 := by decide +kernel
theorem t11c : portF R1 1 2 1 = 3 := by decide +kernel
theorem t11d : portF R2 1 2 1 = -1 := by decide +kernel
theorem t11e : (bookL g2 1 1).length = 1 := by decide +kernel
theorem t11f : (R1 0).e.stamp < 4294967296 := by decide +kernel
theorem told_Learn1 {w : World} {D : Nat → Prop} {p q : Nat} (h : BkAt w D p q 1 1 1 (fun _ _ => pl0)) (hD : ∀ b, D b → b < w.heap.size) (hq : D q) :
    Calls Try.prog 54 #[.pointer (some ⟨p, 0, none⟩), .agg #[.int .i64 1, .int .u64 2], .int .i64 3, .int .u32 5] w fun e w' => e = .returned (.int .i64 3) ∧ BkAt w' D p q 1 1 1 g1 ∧ But q w w' := by
  have hc := book_Learn h hD hq (by omega) (by omega) (by omega) (fun i _ j _ => by show (0 : Nat) < 4294967296; omega) 1 2 (by omega) 3 5 (by omega)
  rw [hom_one] at hc
  refine hc.mono ?_
  rintro e w' ⟨he, hb, hbt⟩
  refine ⟨he.trans ?_, hb, hbt⟩
  have := t11a
  show Ending.returned (.int .i64 (((putF (fun _ => ownP pl0) ⟨1, 2, 3, false, 5⟩ 5 1).2 : Nat) : Int)) = _
  rw [this]
  rfl
theorem told_Learn2 {w : World} {D : Nat → Prop} {p q : Nat} (h : BkAt w D p q 1 1 1 g1) (hD : ∀ b, D b → b < w.heap.size) (hq : D q) :
    Calls Try.prog 54 #[.pointer (some ⟨p, 0, none⟩), .agg #[.int .i64 1, .int .u64 4], .int .i64 1, .int .u32 6] w fun e w' => e = .returned (.int .i64 4) ∧ BkAt w' D p q 1 1 1 g2 ∧ But q w w' := by
  have hc := book_Learn h hD hq (by omega) (by omega) (by omega) (fun i hi j hj => by
    obtain rfl : i = 0 := by omega
    obtain rfl : j = 0 := by omega
    exact t11f) 1 4 (by omega) 1 6 (by omega)
  rw [hom_one] at hc
  refine hc.mono ?_
  rintro e w' ⟨he, hb, hbt⟩
  refine ⟨he.trans ?_, hb, hbt⟩
  have := t11b
  show Ending.returned (.int .i64 (((putF (fun i => ownP (R1 i)) ⟨1, 4, 1, false, 6⟩ 6 1).2 : Nat) : Int)) = _
  rw [this]
  rfl
theorem told_Lookup1 {w : World} {D : Nat → Prop} {p q : Nat} (h : BkAt w D p q 1 1 1 g1) :
    Calls Try.prog 53 #[.pointer (some ⟨p, 0, none⟩), .agg #[.int .i64 1, .int .u64 2]] w (Says (.int .i64 3) w) := by
  have hc := book_Lookup h (by omega) (by omega) (by omega) 1 2 (by omega)
  rw [hom_one] at hc
  have e : portF (g1 0) 1 2 1 = 3 := t11c
  rw [e] at hc
  exact hc
theorem told_Lookup2 {w : World} {D : Nat → Prop} {p q : Nat} (h : BkAt w D p q 1 1 1 g2) :
    Calls Try.prog 53 #[.pointer (some ⟨p, 0, none⟩), .agg #[.int .i64 1, .int .u64 2]] w (Says (.int .i64 (-1)) w) := by
  have hc := book_Lookup h (by omega) (by omega) (by omega) 1 2 (by omega)
  rw [hom_one] at hc
  have e : portF (g2 0) 1 2 1 = -1 := t11d
  rw [e] at hc
  exact hc
theorem told_List {w : World} {D : Nat → Prop} {p q : Nat} (h : BkAt w D p q 1 1 1 g2) :
    Calls Try.prog 51 #[.pointer (some ⟨p, 0, none⟩)] w fun e w' => ∃ A cap, e = .returned (.slice A 1 cap) ∧ Below w.heap.size w w' := by
  refine (book_List h (by omega) (by omega)).mono ?_
  rintro e w' ⟨v, he, ho, hb⟩
  have el : (bookL g2 1 (1 * 1)).length = 1 := t11e
  rw [el] at ho
  obtain ⟨A, cap, hv, _, _⟩ := (Sl.of_own ho).form
  exact ⟨A, cap, by rw [he, hv], hb⟩
set_option maxRecDepth 20000 in
set_option maxHeartbeats 6400000 in
theorem told11 (w : World) : Calls Try.prog 39 #[] w (Says (.bool true) w) := by
  have HN := Lib.hid (book_New 1 1 1 (by omega) (by omega) (by omega) w)
  have HT2 := Lib.hid fun w => law8_To 1 2 w
  have HT4 := Lib.hid fun w => law8_To 1 4 w
  go_enter Try.func39, Try.ntmps39
  go_wp2_with fail
  refine (HN.out).mono ?_
  rintro e w1 ⟨p, q, rfl, hbk, hp, hq, hqp, hb⟩
  have HB1 := Lib.hid hb
  have HK1 := Lib.hid hbk
  clear hb hbk HN
  go_wp2_with fail
  refine (HT2.out _).mono ?_
  rintro e w2 ⟨rfl, hb⟩
  obtain ⟨w3, hw3⟩ : ∃ w3, w3 = w2.alloc (.cells #[.int .i64 1, .int .u64 2] 36) := ⟨_, rfl⟩
  obtain ⟨x, hx⟩ : ∃ x, x = w2.heap.size := ⟨_, rfl⟩
  have hz2 := hb.size
  have hp1 : p < w1.heap.size := HK1.out.1
  have HB3 : Hid (Below w.heap.size w w3) := by rw [hw3]; exact (HB1.out.trans (hb.mono HB1.out.size)).alloc (by have := HB1.out.size; omega) _
  have HK3 : Hid (BkAt w3 (fun b => b ≤ p) p q 1 1 1 (fun _ _ => pl0)) := by rw [hw3]; exact HK1.out.call (hb.alloc hz2 _)
  have k0 : w3.cell? ⟨x, 0, none⟩ = some (.int .i64 1) := by rw [hw3, hx]; simp [go_sem]
  have k1 : w3.cell? ⟨x, 1, none⟩ = some (.int .u64 2) := by rw [hw3, hx]; simp [go_sem]
  have hxz : x < w3.heap.size := by rw [hw3, hx]; simp
  have hxp : p < x := by rw [hx]; omega
  have hp3 : p < w3.heap.size := HK3.out.1
  clear hb HB1 HK1
  go_wp2_with fail
  rw [← hw3]
  (try rw [← hx])
  clear hw3 hx
  refine (told_Learn1 HK3.out (fun b hb => by show b < _; have : b ≤ p := hb; omega) (by show q ≤ p; omega)).mono ?_
  rintro e w4 ⟨rfl, hk, hbt⟩
  have HK4 := Lib.hid hk
  have HB4 : Hid (Below w.heap.size w w4) := HB3.out.trans (hbt.below.mono hq)
  have k0 := (hbt.cell (p := ⟨x, 0, none⟩) hxz (show x ≠ q by omega)).trans k0
  have k1 := (hbt.cell (p := ⟨x, 1, none⟩) hxz (show x ≠ q by omega)).trans k1
  have hxz := Nat.lt_of_lt_of_le hxz hbt.below.size
  clear hbt hk HB3 HK3
  go_wp2_with fail
  refine (told_Lookup1 HK4.out).mono ?_
  rintro e w5 ⟨rfl, hb⟩
  have HK5 := Lib.hid (HK4.out.call hb)
  have HB5 : Hid (Below w.heap.size w w5) := HB4.out.trans (hb.mono HB4.out.size)
  have k0 := (hb.cell (p := ⟨x, 0, none⟩) hxz).trans k0
  have k1 := (hb.cell (p := ⟨x, 1, none⟩) hxz).trans k1
  have hxz := Nat.lt_of_lt_of_le hxz hb.size
  clear hb HB4 HK4
  go_wp2_with fail
  refine (HT4.out _).mono ?_
  rintro e w6 ⟨rfl, hb⟩
  have HK6 := Lib.hid (HK5.out.call hb)
  have HB6 : Hid (Below w.heap.size w w6) := HB5.out.trans (hb.mono HB5.out.size)
  have k0 := (hb.cell (p := ⟨x, 0, none⟩) hxz).trans k0
  have k1 := (hb.cell (p := ⟨x, 1, none⟩) hxz).trans k1
  have hxz := Nat.lt_of_lt_of_le hxz hb.size
  have hp6 : p < w6.heap.size := HK6.out.1
  clear hb HB5 HK5
  go_wp2_with fail
  refine (told_Learn2 HK6.out (fun b hb => by show b < _; have : b ≤ p := hb; omega) (by show q ≤ p; omega)).mono ?_
  rintro e w7 ⟨rfl, hk, hbt⟩
  have HK7 := Lib.hid hk
  have HB7 : Hid (Below w.heap.size w w7) := HB6.out.trans (hbt.below.mono hq)
  have k0 := (hbt.cell (p := ⟨x, 0, none⟩) hxz (show x ≠ q by omega)).trans k0
  have k1 := (hbt.cell (p := ⟨x, 1, none⟩) hxz (show x ≠ q by omega)).trans k1
  clear hbt hk HB6 HK6
  go_wp2_with fail
  refine (told_Lookup2 HK7.out).mono ?_
  rintro e w8 ⟨rfl, hb⟩
  have HK8 := Lib.hid (HK7.out.call hb)
  have HB8 : Hid (Below w.heap.size w w8) := HB7.out.trans (hb.mono HB7.out.size)
  clear hb HB7 HK7 k0 k1
  go_wp2_with fail
  refine (told_List HK8.out).mono ?_
  rintro e w9 ⟨A, cap, rfl, hb⟩
  have HB9 : Hid (Below w.heap.size w w9) := HB8.out.trans (hb.mono HB8.out.size)
  clear hb
  go_wp2
  go_ret
  exact ⟨by simp, HB9.out⟩
end Go.Proofs.Ytccnfcjaehcfkaa
