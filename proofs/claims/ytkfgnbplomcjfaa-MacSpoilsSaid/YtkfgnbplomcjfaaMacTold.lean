/-
  The first law's own look: an address is told. And plain facts on texts: a parser undoes the printer, and the printer the parser. No statement is proved here.
-/
import Derived.Test.YtkfgnbplomcjfaaMacParse
import Derived.Test.YtkfgnbplomcjfaaMacText
namespace Go.Proofs.Ytkfgnbplomcjfaa
open Go.RowKit

theorem told_parse : parseN (sl { data := #[48, 49, 45, 56, 48, 45, 99, 50, 45, 48, 48, 45, 48, 48, 45, 48, 101] }) = some 1652522221582 := by decide
theorem told_kind : kindN 1652522221582 = 3 := by decide
theorem told_text : stB (texN 1652522221582) = { data := #[48, 49, 45, 56, 48, 45, 99, 50, 45, 48, 48, 45, 48, 48, 45, 48, 101] } := by decide

set_option maxHeartbeats 1600000 in
theorem told01 (w : World) : Calls Try.prog 16 #[] w (Says (.bool true) w) := by
  have hp : ∀ W, Calls Try.prog 28 #[.string { data := #[48, 49, 45, 56, 48, 45, 99, 50, 45, 48, 48, 45, 48, 48, 45, 48, 101] }] W fun e w' => e = .returned (.tuple #[.int .u64 1652522221582, .int .i64 0]) ∧ W = w' := fun W =>
    (mac_Parse _ W).mono fun e w' h => ⟨by rw [h.1, told_parse]; rfl, h.2⟩
  have hk : ∀ W, Calls Try.prog 23 #[.int .u64 1652522221582] W fun e w' => e = .returned (.int .i64 3) ∧ W = w' := fun W =>
    (mac_Kind 1652522221582 (by omega) W).mono fun e w' h => ⟨by rw [h.1, told_kind]; rfl, h.2⟩
  have ht : ∀ W, Calls Try.prog 27 #[.int .u64 1652522221582] W (Says (.string { data := #[48, 49, 45, 56, 48, 45, 99, 50, 45, 48, 48, 45, 48, 48, 45, 48, 101] }) W) := fun W =>
    (mac_Text 1652522221582 W).mono fun e w' h => ⟨by rw [h.1, told_text], h.2⟩
  have hb : ∀ W, Calls Try.prog 18 #[.int .u64 1652522221582] W (Made 5 1 6 (bv (mb 1652522221582)) W) := fun W => mac_Bytes 1652522221582 W
  have HP := Lib.hid hp
  have HK := Lib.hid hk
  have HT := Lib.hid ht
  have HB := Lib.hid hb
  clear hp hk ht hb
  go_enter Try.func16, Try.ntmps16
  go_wp2_with fail
  refine (HP.out _).mono ?_
  rintro e w1 ⟨rfl, rfl⟩
  go_wp2_with fail
  refine (HK.out _).mono ?_
  rintro e w1 ⟨rfl, rfl⟩
  go_wp2_with fail
  refine (HT.out _).mono ?_
  rintro e w1 ⟨rfl, hb1⟩
  go_wp2_with fail
  refine (HB.out _).mono ?_
  rintro e w2 ⟨v, rfl, hown, hb2⟩
  obtain ⟨A, cap, rfl, _, _⟩ := (Sl.of_own hown).form
  go_wp2
  go_ret
  exact ⟨rfl, hb1.trans (hb2.mono hb1.size)⟩
end Go.Proofs.Ytkfgnbplomcjfaa
