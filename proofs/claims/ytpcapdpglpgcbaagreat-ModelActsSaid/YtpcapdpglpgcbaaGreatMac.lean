/-
  Words and contracts that a statement's proof rests on (Mac, VlanA). No statement is proved here.
-/
import Derived.Test.YtpcapdpglpgcbaaGreatProg
import Derived.Handy
import Derived.WalkLawsBesides
import Derived.Lib.Hide
import Derived.Laws.BitsAllLaws
import Derived.Deep.QuietTactic
import Derived.BigQuiet
import Derived.Test.YtpcapdpglpgcbaaGreatBase
import Derived.Test.YtpcapdpglpgcbaaGreatKit
set_option linter.unusedVariables false
set_option linter.unusedSimpArgs false
namespace Go.Proofs.YtpcapdpglpgcbaaGreat
section
open Go.RowKit
set_option maxHeartbeats 400000 in
theorem mac_Right (m : Nat) (hm : m < 18446744073709551616) (w : World) :
  Calls Tryz.prog 136 #[.int .u64 (m : Int)] w fun e w' => e = .returned (.bool (decide (m < 281474976710656))) ∧ w = w' := by
 go_enter Tryz.func136, Tryz.ntmps136
 go_wp2
 go_ret
 exact ⟨ret_bool (by rw [decide_eq_decide]; omega), rfl⟩
theorem ref_Low (m : Nat) (w : World) :
  Calls Tryz.prog 132 #[.int .u64 (m : Int)] w fun e w' => e = .returned (.int .u64 (m % 281474976710656 : Nat)) ∧ w = w' := by
 go_enter Tryz.func132, Tryz.ntmps132
 go_wp2
 go_ret
 exact ⟨ret_u64 (by omega), rfl⟩
set_option maxHeartbeats 400000 in
theorem mac_Kind (m : Nat) (hm : m < 18446744073709551616) (w : World) :
  Calls Tryz.prog 137 #[.int .u64 (m : Int)] w fun e w' => e = .returned (.int .i64 (kindN m : Nat)) ∧ w = w' := by
 have h1 : bits .and .u64 (m : Int) 281474976710655 = ((m % 281474976710656 : Nat) : Int) := by
  have := u64_and_nat m 281474976710655 hm (by omega)
  rw [and_low] at this
  exact this
 have hk : kindN m = if m % 281474976710656 = 281474976710655 then 2 else if m % 281474976710656 / 16 * 16 = 1652522221568 then 3 else m % 281474976710656 / 1099511627776 % 2 := by
  unfold kindN
  split
  ·rfl
  ·split
   ·rfl
   ·omega
 obtain ⟨L, hL⟩ : ∃ L, L = m % 281474976710656 := ⟨_, rfl⟩
 have hLb : L < 281474976710656 := by omega
 rw [← hL] at h1 hk
 have HK := Lib.hid hk
 clear hk hL
 have h2 : bits .andNot .u64 (L : Int) 15 = ((L / 16 * 16 : Nat) : Int) := by
  have := u64_andNot_nat L 15 (by omega) (by omega)
  rw [andNot_15 L (by omega)] at this
  exact this
 have h3 : bits .and .u64 (L : Int) 1099511627776 = ((L / 1099511627776 % 2 * 1099511627776 : Nat) : Int) := by
  have := u64_and_nat L 1099511627776 (by omega) (by omega)
  rw [and_40] at this
  exact this
 go_enter Tryz.func137, Tryz.ntmps137
 go_wp2
 all_goals go_ret
 all_goals refine ⟨ret_i64 ?_, rfl⟩
 all_goals rw [HK.out]
 all_goals simp only [beq_iff_eq, beq_eq_false_iff_ne, bne_iff_ne, bne_eq_false_iff_eq, ne_eq] at *
 ·rw [if_pos (by omega)]; rfl
 ·rw [if_neg (by omega), if_pos (by omega)]; rfl
 ·rw [if_neg (by omega), if_neg (by omega)]; omega
 ·rw [if_neg (by omega), if_neg (by omega)]; omega
def Made (e : TypeId) (size n : Nat) (xs : List Value) (w : World) (en : Ending) (w' : World) : Prop :=
 ∃ v, en = .returned v ∧ w'.ownsRow w.heap.size e size v n xs ∧ Below w.heap.size w w'
theorem stBytes : ST Tryz.prog 208 5 (.int .u8 0) 1 1 := ST.mk Tryz.underlying208 (by kernel_rfl) rfl (by omega) (by omega)
set_option maxHeartbeats 400000 in
theorem ref_Bytes (m : Nat) (hm : m < 18446744073709551616) (w : World) :
  Calls Tryz.prog 138 #[.int .u64 (m : Int)] w (Made 5 1 6 (bv (mb m)) w) := by
 go_enter Tryz.func138, Tryz.ntmps138
 go_wp2
 go_loopw [0, 3, 4] (fun q v i wr => ∃ k : Nat, k ≤ 6 ∧ i = .int .i64 k ∧ q = .int .u64 (m / 256 ^ k : Nat) ∧ wr.ownsRow w.heap.size 5 1 v k (bv (lastk m k)) ∧ Below w.heap.size w wr) (fun _ _ i _ => 6 - (intOf i).toNat)
 case atStart => exact ⟨0, by omega, rfl, by simp, World.ownsRow_nil _ _ _ _, Below.refl _ _⟩
 case round =>
  obtain ⟨k, hk, rfl, rfl, hown, hbel⟩ := hrel
  have hsz := hbel.size
  by_cases hlt : k < 6
  ·obtain ⟨q, hq⟩ : ∃ q, q = m / 256 ^ k := ⟨_, rfl⟩
   have hqb : q < 18446744073709551616 := by
    have := Nat.div_le_self m (256 ^ k)
    omega
   have HQ : Hid (bv (lastk m (k + 1)) = [.int .u8 ((q : Int) % 256)] ++ bv (lastk m k)) := by
    rw [hq]
    simp [Hid, lastk, bv]
   have HQ2 : Hid (m / 256 ^ (k + 1) = q / 256) := by
    show _ = _
    rw [Nat.pow_succ, ← Nat.div_div_eq_div_mul, hq]
   rw [← hq]
   clear hq
   go_wp2_with (first
    | (at_builtin; refine wpList_app _ rfl stBytes (.tmp 12) (.tmp 13) rfl w.heap.size _ 1 [.int .u8 ((q : Int) % 256)] rfl (World.ownsRow_lit wr #[.int .u8 ((q : Int) % 256)] 1 hsz (by decide) rfl) wr.heap.size _ k (bv (lastk m k)) rfl ((Sl.of_own hown).alloc (Nat.le_refl _) _) (bv_one _) (by omega) (by simp; omega) ?_; intro v1 w1 hown1 hg1 hat1 hbel1))
   go_roundw
   case rel =>
    refine ⟨k + 1, by omega, by go_num, by rw [HQ2.out]; go_num, ?_, ?_⟩
    ·rw [HQ.out, Nat.add_comm]; exact hown1
    ·exact (hbel.alloc hsz _).trans hbel1
   case measure => simp [intOf]; omega
  ·have : k = 6 := by omega
   subst this
   go_wp2
   go_ret
   exact ⟨_, rfl, by rw [← lastk_six]; exact hown, hbel⟩
theorem six {w : World} {B : Nat} {v : Value} {m : Nat} {e : TypeId} (h : w.ownsRow B e 1 v 6 (bv (mb m))) : ∃ g cap, v = .slice (some ⟨g, 0, none⟩) 6 cap ∧ B ≤ g ∧ g < w.heap.size ∧ 6 ≤ cap ∧
  w.cell? ⟨g, 0, none⟩ = some (.int .u8 (m / 1099511627776 % 256 : Nat)) ∧ w.cell? ⟨g, 1, none⟩ = some (.int .u8 (m / 4294967296 % 256 : Nat)) ∧ w.cell? ⟨g, 2, none⟩ = some (.int .u8 (m / 16777216 % 256 : Nat)) ∧
  w.cell? ⟨g, 3, none⟩ = some (.int .u8 (m / 65536 % 256 : Nat)) ∧ w.cell? ⟨g, 4, none⟩ = some (.int .u8 (m / 256 % 256 : Nat)) ∧ w.cell? ⟨g, 5, none⟩ = some (.int .u8 (m % 256 : Nat)) := by
 rcases h.2 with ⟨_, h0⟩ | ⟨g, cap, cur, rfl, hb, hg, hc, _⟩
 ·omega
 ·refine ⟨g, cap, rfl, hb, (Array.getElem?_eq_some_iff.1 hg).1, hc, ?_, ?_, ?_, ?_, ?_, ?_⟩ <;> (rw [h.cellAt _ (by omega)]; simp [bv, mb])
set_option maxHeartbeats 1000000 in
theorem ref_Kind (m : Nat) (hm : m < 18446744073709551616) (w : World) :
  Calls Tryz.prog 133 #[.int .u64 (m : Int)] w (Says (.int .i64 (kindN m : Nat)) w) := by
 have hk := reserved_iff m
 have hk2 : kindN m = if m % 281474976710656 = 281474976710655 then 2 else if (m / 1099511627776 % 256 = 1 ∧ m / 4294967296 % 256 = 128 ∧ m / 16777216 % 256 = 194 ∧ m / 65536 % 256 = 0 ∧ m / 256 % 256 = 0 ∧ m % 256 < 16) then 3 else m / 1099511627776 % 256 % 2 := by
  unfold kindN
  simp only [hk]
  split
  ·rfl
  ·split
   ·rfl
   ·omega
 have HK := Lib.hid hk2
 clear hk hk2
 go_enter Tryz.func133, Tryz.ntmps133
 go_wp2_with fail
 refine (ref_Bytes m hm _).mono ?_
 rintro e w1 ⟨v, rfl, hown, hb⟩
 obtain ⟨g, cap, rfl, _, _, hc, c0, c1, c2, c3, c4, c5⟩ := six hown
 have HB := Lib.hid hb
 clear hown hb
 generalize m / 1099511627776 % 256 = x0 at *
 generalize m / 4294967296 % 256 = x1 at *
 generalize m / 16777216 % 256 = x2 at *
 generalize m / 65536 % 256 = x3 at *
 generalize m / 256 % 256 = x4 at *
 generalize m % 256 = x5 at *
 go_wp2_with (go_at_call 132; refine (ref_Low m _).mono ?_; rintro e w2 ⟨rfl, rfl⟩)
 all_goals go_ret
 all_goals refine ⟨ret_i64 ?_, HB.out⟩
 all_goals rw [HK.out]
 all_goals (try simp only [beq_iff_eq, beq_eq_false_iff_ne, ne_eq] at *)
 all_goals first | (rw [if_pos (by omega)]; rfl) | (rw [if_neg (by omega), if_pos (by omega)]; rfl) | (rw [if_neg (by omega), if_neg (by omega)]; omega)
end
section
open Go.RowKit
theorem bit_wrap {p : Nat} (hp : p < 64) : IntKind.u64.wrap (2 ^ p) = ((2 ^ p : Nat) : Int) := by
 have := bit_lt hp
 have h : ((2 : Int) ^ p) = ((2 ^ p : Nat) : Int) := by simp
 rw [h]
 generalize 2 ^ p = y at *
 exact IntWalk.u64_in _ (by omega)
set_option maxHeartbeats 400000 in
theorem vlan_bit_out (p : Int) (hp : p < 0 ∨ 64 ≤ p) (w : World) :
  Calls Tryz.prog 117 #[.int .i64 p] w fun e w' => e = .returned (.int .u64 0) ∧ w = w' := by
 go_enter Tryz.func117, Tryz.ntmps117
 by_cases h0 : p < 0
 ·go_wp2
  go_ret
  exact ⟨rfl, rfl⟩
 ·have h1 : (64 : Int) ≤ p := by omega
  go_wp2
  go_ret
  exact ⟨rfl, rfl⟩
set_option maxHeartbeats 400000 in
theorem vlan_bit_in (p : Nat) (hp : p < 64) (w : World) :
  Calls Tryz.prog 117 #[.int .i64 (p : Int)] w fun e w' => e = .returned (.int .u64 ((2 ^ p : Nat) : Int)) ∧ w = w' := by
 have h0 : ¬ (p : Int) < 0 := by omega
 have h1 : ¬ (64 : Int) ≤ (p : Int) := by omega
 go_enter Tryz.func117, Tryz.ntmps117
 go_wp2
 go_ret
 exact ⟨by simp [bit_wrap hp], rfl⟩
set_option maxHeartbeats 400000 in
theorem vlan_Has (s : Nat) (hs : s < 18446744073709551616) (p : Int) (w : World) :
  Calls Tryz.prog 89 #[.int .u64 (s : Int), .int .i64 p] w fun e w' => e = .returned (.bool (hasB s p)) ∧ w = w' := by
 by_cases hp : p < 0 ∨ 64 ≤ p
 ·have hq : bits .and .u64 (s : Int) 0 = 0 := by
   have := u64_and_nat s 0 hs (by omega)
   rw [Nat.and_zero] at this
   exact this
  have hB := Lib.hid fun W => vlan_bit_out p hp W
  go_enter Tryz.func89, Tryz.ntmps89
  go_wp2_with fail
  refine (hB.out _).mono ?_
  rintro e w1 ⟨rfl, rfl⟩
  go_wp2
  go_ret
  exact ⟨ret_bool (by rw [hasB_out s hp]), rfl⟩
 ·obtain ⟨k, rfl⟩ := Int.eq_ofNat_of_zero_le (show 0 ≤ p by omega)
  have hk : k < 64 := by omega
  obtain ⟨y, hy⟩ : ∃ y, y = 2 ^ k := ⟨_, rfl⟩
  have hB := vlan_bit_in k hk
  rw [← hy] at hB
  have HB := Lib.hid hB
  have hq := u64_and_nat s (2 ^ k) hs (bit_lt hk)
  rw [← hy] at hq
  have HY := Lib.hid hy
  clear hB hy
  go_enter Tryz.func89, Tryz.ntmps89
  go_wp2_with fail
  refine (HB.out _).mono ?_
  rintro e w1 ⟨rfl, rfl⟩
  go_wp2
  go_ret
  exact ⟨ret_bool (by rw [hasB_in s hk, ← has_and, HY.out]), rfl⟩
set_option maxHeartbeats 400000 in
theorem ref3_bit (p : Nat) (hp : p < 64) (w : World) :
  Calls Tryz.prog 70 #[.int .i64 (p : Int)] w fun e w' => e = .returned (.int .u64 ((2 ^ p : Nat) : Int)) ∧ w = w' := by
 obtain ⟨Y, hY⟩ : ∃ Y, Y = 2 ^ p := ⟨_, rfl⟩
 rw [← hY]
 have HYY := Lib.hid hY
 clear hY
 go_enter Tryz.func70, Tryz.ntmps70
 go_wp2
 go_loop [3, 4] (fun n i => ∃ k y : Nat, k ≤ p ∧ i = .int .i64 k ∧ n = .int .u64 (y : Nat) ∧ Hid (y = 2 ^ k)) (fun _ i => p - (intOf i).toNat)
 case atStart => exact ⟨0, 1, by omega, rfl, rfl, rfl⟩
 case round =>
  obtain ⟨k, y, hk, rfl, rfl, HY⟩ := hrel
  by_cases hlt : k < p
  ·have hy : y ≤ 4611686018427387904 := by
    have := Nat.pow_le_pow_right (n := 2) (by omega) (show k ≤ 62 by omega)
    rw [HY.out]
    exact Nat.le_trans this (by decide)
   go_wp2
   go_round
   case rel => exact ⟨k + 1, y * 2, by omega, by go_num, by go_num, by show y * 2 = 2 ^ (k + 1); rw [HY.out, Nat.pow_succ]⟩
   case measure => simp [intOf]; omega
  ·have : k = p := by omega
   subst this
   go_wp2
   go_ret
   exact ⟨ret_u64 (by rw [HYY.out, HY.out]), rfl⟩
set_option maxHeartbeats 400000 in
theorem ref3_Has (s : Nat) (hs : s < 18446744073709551616) (p : Int) (w : World) :
  Calls Tryz.prog 20 #[.int .u64 (s : Int), .int .i64 p] w fun e w' => e = .returned (.bool (hasB s p)) ∧ w = w' := by
 by_cases hp : p < 0 ∨ 64 ≤ p
 ·go_enter Tryz.func20, Tryz.ntmps20
  by_cases h0 : p < 0
  ·go_wp2
   go_ret
   exact ⟨ret_bool (by rw [hasB_out s hp]), rfl⟩
  ·have h1 : (64 : Int) ≤ p := by omega
   go_wp2
   go_ret
   exact ⟨ret_bool (by rw [hasB_out s hp]), rfl⟩
 ·obtain ⟨k, rfl⟩ := Int.eq_ofNat_of_zero_le (show 0 ≤ p by omega)
  have hk : k < 64 := by omega
  obtain ⟨y, hy⟩ : ∃ y, y = 2 ^ k := ⟨_, rfl⟩
  have hB := ref3_bit k hk
  have hpos := Nat.two_pow_pos k
  have hyl := bit_lt hk
  rw [← hy] at hB hpos hyl
  have hne : ¬ (y : Int) = 0 := by omega
  obtain ⟨q, hq⟩ : ∃ q, q = s / y := ⟨_, rfl⟩
  have hql : q ≤ s := by rw [hq]; exact Nat.div_le_self _ _
  have hqi : (s : Int) / (y : Int) = (q : Int) := by rw [hq]; simp
  have hqw : IntKind.u64.wrap ((s : Int) / (y : Int)) = (q : Int) := by rw [hqi]; exact IntWalk.u64_in _ (by omega)
  have HB := Lib.hid hB
  have HY := Lib.hid hy
  have HQ := Lib.hid hq
  clear hB hy hp hq hqi hql
  have h0 : (0 : Int) ≤ (k : Int) := by omega
  have h1 : (k : Int) < 64 := by omega
  go_enter Tryz.func20, Tryz.ntmps20
  go_wp2_with fail
  refine (HB.out _).mono ?_
  rintro e w1 ⟨rfl, rfl⟩
  go_wp2
  go_ret
  refine ⟨ret_bool ?_, rfl⟩
  rw [hasB_in s hk, Nat.testBit_eq_decide_div_mod_eq, ← HY.out, ← HQ.out, Bool.eq_iff_iff]
  simp
  omega
set_option maxHeartbeats 400000 in
theorem ref3_With (s : Nat) (hs : s < 18446744073709551616) (p : Int) (w : World) :
  Calls Tryz.prog 21 #[.int .u64 (s : Int), .int .i64 p] w fun e w' => e = .returned (.int .u64 (withN s p : Nat)) ∧ w = w' := by
 by_cases hp : p < 0 ∨ 64 ≤ p
 ·go_enter Tryz.func21, Tryz.ntmps21
  by_cases h0 : p < 0
  ·go_wp2
   go_ret
   exact ⟨by rw [withN_out s hp]; rfl, rfl⟩
  ·have h1 : (63 : Int) < p := by omega
   go_wp2
   go_ret
   exact ⟨by rw [withN_out s hp]; rfl, rfl⟩
 ·have hH := fun W => ref3_Has s hs p W
  obtain ⟨k, rfl⟩ := Int.eq_ofNat_of_zero_le (show 0 ≤ p by omega)
  have hk : k < 64 := by omega
  obtain ⟨y, hy⟩ : ∃ y, y = 2 ^ k := ⟨_, rfl⟩
  have hB := ref3_bit k hk
  rw [← hy] at hB
  have HB := Lib.hid hB
  have HY := Lib.hid hy
  rw [hasB_in s hk] at hH
  have h0 : ¬ (k : Int) < 0 := by omega
  have h1 : ¬ (63 : Int) < (k : Int) := by omega
  clear hB hp
  cases hb : s.testBit k
  ·rw [hb] at hH
   have e := or_bit_add hs hk hb
   have hl := withN_lt hs (k : Int)
   rw [withN_in s hk, e, ← hy] at hl
   rw [← hy] at e
   have HH := Lib.hid hH
   have HE := Lib.hid e
   clear hH e hy hb
   go_enter Tryz.func21, Tryz.ntmps21
   go_wp2_with fail
   refine (HH.out _).mono ?_
   rintro e w1 ⟨rfl, rfl⟩
   go_wp2_with fail
   refine (HB.out _).mono ?_
   rintro e w1 ⟨rfl, rfl⟩
   have hw : IntKind.u64.wrap ((s : Int) + (y : Int)) = (s : Int) + (y : Int) := IntWalk.u64_in _ (by omega)
   go_wp2
   go_ret
   exact ⟨ret_u64 (by rw [withN_in s hk, ← HY.out, HE.out]; simp), rfl⟩
  ·rw [hb] at hH
   have e := or_bit_same hb
   have HH := Lib.hid hH
   have HE := Lib.hid e
   clear hH e hy hb
   go_enter Tryz.func21, Tryz.ntmps21
   go_wp2_with fail
   refine (HH.out _).mono ?_
   rintro e w1 ⟨rfl, rfl⟩
   go_wp2
   go_ret
   exact ⟨ret_u64 (by rw [withN_in s hk, HE.out]), rfl⟩
end
end Go.Proofs.YtpcapdpglpgcbaaGreat
