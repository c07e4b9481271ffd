/-
  Contracts of layer 7's lists of turns, the document's: the same lists. No statement is proved here.
-/
import Derived.Test.YthamjkccljhhcabTurnB
set_option linter.unusedVariables false
namespace Go.Proofs.Ythamjkccljhhcab
open Go.RowKit

/-- The turns of the numbers below k. -/
def upK (m : Int) (g : Int → Int) (k : Nat) : List Int := (List.range k).map fun (i : Nat) => g (i : Int) % m
theorem upK_length (m : Int) (g : Int → Int) (k : Nat) : (upK m g k).length = k := by simp [upK]
theorem upK_succ (m : Int) (g : Int → Int) (k : Nat) : kv .i64 (upK m g (k + 1)) = kv .i64 (upK m g k) ++ [.int .i64 (g (k : Int) % m)] := by
  unfold upK kv
  rw [List.range_succ]
  simp
theorem mod_wrap (x m : Int) (h0 : 0 ≤ x) (h1 : x < 18446744073709551616) (hm1 : 1 ≤ m) (hm2 : m ≤ 9223372036854775807) : wrap64 (x.tmod m) = x % m := by
  rw [Int.tmod_eq_emod_of_nonneg h0]
  have h2 := Int.emod_nonneg x (show m ≠ 0 by omega)
  have h3 := Int.emod_lt_of_pos x (show 0 < m by omega)
  exact IntWalk.wrap64_in _ (by omega)
theorem Ints.own {w w' : World} {B n : Nat} {l : List Int} {v : Value} {e : TypeId} (h : w'.ownsRow B e 1 v n (kv .i64 l)) (hl : l.length = n) (hb : Below w.heap.size w w') : Ints l w (.returned v) w' := by
  have hs := Sl.of_own h
  obtain ⟨A, cap, rfl, _, _⟩ := hs.form
  subst hl
  exact ⟨A, cap, rfl, hs, hb⟩

set_option maxHeartbeats 1600000 in
theorem ref7_Round1 (m c : Int) (hm : 1 ≤ m ∧ m ≤ 9223372036854775807) (hc : c ≤ 9223372036854775807) (w : World) :
    Calls Try.prog 34 #[.int .i64 m, .int .i64 c] w (Ints (turnsL m c gRound) w) := by
  obtain ⟨N, hN⟩ : ∃ N : Nat, N = min c.toNat 100000 := ⟨_, rfl⟩
  have hN1 : N ≤ 100000 := by omega
  have hL : turnsL m c gRound = upK m gRound N := by
    unfold turnsL
    by_cases h : c < 1
    · rw [if_pos (Or.inr h), hN, show min c.toNat 100000 = 0 by omega]
      rfl
    · rw [if_neg (by omega), hN]
      rfl
  rw [hL]
  have HL := Lib.hid (upK_length m gRound N)
  have HN := Lib.hid hN
  obtain ⟨hm1, hm2⟩ := hm
  have hc2 := hc
  clear hL hN hc
  go_enter Try.func34, Try.ntmps34
  go_wp2
  go_loopw [5, 6] (fun o i wr => ∃ k : Nat, k ≤ N ∧ i = .int .i64 k ∧ Hid (wr.ownsRow w.heap.size 3 1 o k (kv .i64 (upK m gRound k))) ∧ Hid (Below w.heap.size w wr)) (fun _ i _ => N - (intOf i).toNat)
  case atStart => exact ⟨0, by omega, rfl, ⟨by simp [kv, upK], .inl ⟨rfl, rfl⟩⟩, Below.refl _ _⟩
  case round =>
    obtain ⟨k, hk, rfl, HO, HBW⟩ := hrel
    have hk0 : (0 : Int) ≤ (k : Int) := Int.natCast_nonneg _
    by_cases hlt : k < N
    · have hk1 : decide ((k : Int) < c) = true := by have := HN.out; simp; omega
      have hk2 : (k : Int) < 100000 := by have := HN.out; omega
      have hsz := HBW.out.size
      have HU := Lib.hid (upK_succ m gRound k)
      have he : (k : Int) % m = gRound (k : Int) % m := rfl
      rw [← he] at HU
      clear he
      go_wp2_with (first
          | (at_builtin; refine wpList_app _ rfl stInts (.tmp 18) (.tmp 22) rfl w.heap.size u5 k _ rfl (HO.out.alloc _) (wr.heap.size + 1) _ 1 [.int .i64 ((k : Int) % m)] rfl (Sl.lit wr #[.int .i64 ((k : Int) % m)] _ 1 rfl (by decide)) (by simp [Value.oneCell']) (by omega) (by simp; omega) ?_; intro v2 w2 hown2 hgr2 hat2 hbel2))
      rw [← HU.out] at hown2
      have HO2 := Lib.hid hown2
      have HB2 := Lib.hid ((HBW.out.alloc hsz (.cells #[.int .i64 ((k : Int) % m)] 3)).trans hbel2)
      clear hown2 hgr2 hat2 hbel2
      go_wp2
      go_roundw
      case rel => exact ⟨k + 1, by omega, by go_num, HO2.out, HB2.out⟩
      case measure => simp [intOf]; omega
    · have : k = N := by omega
      subst this
      by_cases hcc : (k : Int) < c
      · have hk1 : decide ((k : Int) < c) = true := by simpa using hcc
        have hk2 : decide ((k : Int) < 100000) = false := by have := HN.out; simp; omega
        clear hcc
        go_wp2
        go_ret
        exact Ints.own HO.out HL.out HBW.out
      · have hk1 : decide ((k : Int) < c) = false := by simpa using hcc
        clear hcc
        go_wp2
        go_ret
        exact Ints.own HO.out HL.out HBW.out

set_option maxHeartbeats 1600000 in
theorem ref7_Bursts1 (m c l s d : Int) (hm : 1 ≤ m ∧ m ≤ 9223372036854775807) (hc : c ≤ 9223372036854775807) (hl : l ≤ 9223372036854775807) (hd : 1 ≤ l ∧ d = l) (w : World) :
    Calls Try.prog 36 #[.int .i64 m, .int .i64 c, .int .i64 l, .int .u64 s] w (Ints (turnsL m c (gBursts s d)) w) := by
  obtain ⟨N, hN⟩ : ∃ N : Nat, N = min c.toNat 100000 := ⟨_, rfl⟩
  have hN1 : N ≤ 100000 := by omega
  have hL : turnsL m c (gBursts s d) = upK m (gBursts s d) N := by
    unfold turnsL
    by_cases h : c < 1
    · rw [if_pos (Or.inr h), hN, show min c.toNat 100000 = 0 by omega]
      rfl
    · rw [if_neg (by omega), hN]
      rfl
  rw [hL]
  have HL := Lib.hid (upK_length m (gBursts s d) N)
  have HN := Lib.hid hN
  obtain ⟨hm1, hm2⟩ := hm
  have hc2 := hc
  clear hL hN hc
  obtain ⟨hl1, rfl⟩ := hd
  go_enter Try.func36, Try.ntmps36
  go_wp2
  go_loopw [9, 10] (fun o i wr => ∃ k : Nat, k ≤ N ∧ i = .int .i64 k ∧ Hid (wr.ownsRow w.heap.size 3 1 o k (kv .i64 (upK m (gBursts s d) k))) ∧ Hid (Below w.heap.size w wr)) (fun _ i _ => N - (intOf i).toNat)
  case atStart => exact ⟨0, by omega, rfl, ⟨by simp [kv, upK], .inl ⟨rfl, rfl⟩⟩, Below.refl _ _⟩
  case round =>
    obtain ⟨k, hk, rfl, HO, HBW⟩ := hrel
    have hk0 : (0 : Int) ≤ (k : Int) := Int.natCast_nonneg _
    by_cases hlt : k < N
    · have hk1 : decide ((k : Int) < c) = true := by have := HN.out; simp; omega
      have hk2 : (k : Int) < 100000 := by have := HN.out; omega
      have hsz := HBW.out.size
      have HU := Lib.hid (upK_succ m (gBursts s d) k)
      have hq := Int.ediv_nonneg hk0 (show 0 ≤ d by omega)
      have hq2 := Int.ediv_le_self d hk0
      have hw0 : wrap64 ((k : Int) / d) = (k : Int) / d := IntWalk.wrap64_in _ (by omega)
      have hw1 : IntKind.u64.wrap ((k : Int) / d) = (k : Int) / d := by rw [IntKind.wrap_u64]; omega
      have hwm : IntKind.u64.wrap m = m := by rw [IntKind.wrap_u64]; omega
      have hd0 : ¬ d = 0 := by omega
      have HW2 := Lib.hid (mod_wrap _ m (mixI_bd (IntKind.u64.wrap (s + (k : Int) / d))).1 (mixI_bd (IntKind.u64.wrap (s + (k : Int) / d))).2 hm1 hm2)
      have HMX := Lib.hid fun W => ref7_Mix _ (u64_wrap_bd (s + (k : Int) / d)) W
      clear hq hq2
      go_wp2_with fail
      refine (HMX.out _).mono ?_
      rintro e w1 ⟨rfl, rfl⟩
      clear hw0 hw1
      have he : mixI (IntKind.u64.wrap (s + (k : Int) / d)) % m = gBursts s d (k : Int) % m := rfl
      rw [he] at HW2
      have hW3 := HW2.out
      clear he HMX HW2
      go_wp2_with (first
          | (at_builtin; refine wpList_app _ rfl stInts (.tmp 24) (.tmp 36) rfl w.heap.size u9 k _ rfl (HO.out.alloc _) (wr.heap.size + 1) _ 1 [.int .i64 (gBursts s d (k : Int) % m)] rfl (Sl.lit wr #[.int .i64 (gBursts s d (k : Int) % m)] _ 1 rfl (by decide)) (by simp [Value.oneCell']) (by omega) (by simp; omega) ?_; intro v2 w2 hown2 hgr2 hat2 hbel2))
      rw [← HU.out] at hown2
      have HO2 := Lib.hid hown2
      have HB2 := Lib.hid ((HBW.out.alloc hsz (.cells #[.int .i64 (gBursts s d (k : Int) % m)] 3)).trans hbel2)
      clear hown2 hgr2 hat2 hbel2
      go_wp2
      go_roundw
      case rel => exact ⟨k + 1, by omega, by go_num, HO2.out, HB2.out⟩
      case measure => simp [intOf]; omega
    · have : k = N := by omega
      subst this
      by_cases hcc : (k : Int) < c
      · have hk1 : decide ((k : Int) < c) = true := by simpa using hcc
        have hk2 : decide ((k : Int) < 100000) = false := by have := HN.out; simp; omega
        clear hcc
        go_wp2
        go_ret
        exact Ints.own HO.out HL.out HBW.out
      · have hk1 : decide ((k : Int) < c) = false := by simpa using hcc
        clear hcc
        go_wp2
        go_ret
        exact Ints.own HO.out HL.out HBW.out

set_option maxHeartbeats 1600000 in
theorem ref7_Bursts2 (m c l s : Int) (hm : 1 ≤ m ∧ m ≤ 9223372036854775807) (hc : c ≤ 9223372036854775807) (hl : l < 1) (w : World) :
    Calls Try.prog 36 #[.int .i64 m, .int .i64 c, .int .i64 l, .int .u64 s] w (Ints (turnsL m c (gBursts s 1)) w) := by
  obtain ⟨N, hN⟩ : ∃ N : Nat, N = min c.toNat 100000 := ⟨_, rfl⟩
  have hN1 : N ≤ 100000 := by omega
  have hL : turnsL m c (gBursts s 1) = upK m (gBursts s 1) N := by
    unfold turnsL
    by_cases h : c < 1
    · rw [if_pos (Or.inr h), hN, show min c.toNat 100000 = 0 by omega]
      rfl
    · rw [if_neg (by omega), hN]
      rfl
  rw [hL]
  have HL := Lib.hid (upK_length m (gBursts s 1) N)
  have HN := Lib.hid hN
  obtain ⟨hm1, hm2⟩ := hm
  have hc2 := hc
  clear hL hN hc
  go_enter Try.func36, Try.ntmps36
  go_wp2
  go_loopw [9, 10] (fun o i wr => ∃ k : Nat, k ≤ N ∧ i = .int .i64 k ∧ Hid (wr.ownsRow w.heap.size 3 1 o k (kv .i64 (upK m (gBursts s 1) k))) ∧ Hid (Below w.heap.size w wr)) (fun _ i _ => N - (intOf i).toNat)
  case atStart => exact ⟨0, by omega, rfl, ⟨by simp [kv, upK], .inl ⟨rfl, rfl⟩⟩, Below.refl _ _⟩
  case round =>
    obtain ⟨k, hk, rfl, HO, HBW⟩ := hrel
    have hk0 : (0 : Int) ≤ (k : Int) := Int.natCast_nonneg _
    by_cases hlt : k < N
    · have hk1 : decide ((k : Int) < c) = true := by have := HN.out; simp; omega
      have hk2 : (k : Int) < 100000 := by have := HN.out; omega
      have hsz := HBW.out.size
      have HU := Lib.hid (upK_succ m (gBursts s 1) k)
      have hwk : wrap64 (k : Int) = (k : Int) := IntWalk.wrap64_in _ (by omega)
      have hw1 : IntKind.u64.wrap (k : Int) = (k : Int) := by rw [IntKind.wrap_u64]; omega
      have hwm : IntKind.u64.wrap m = m := by rw [IntKind.wrap_u64]; omega
      have HW2 := Lib.hid (mod_wrap _ m (mixI_bd (IntKind.u64.wrap (s + (k : Int)))).1 (mixI_bd (IntKind.u64.wrap (s + (k : Int)))).2 hm1 hm2)
      have HMX := Lib.hid fun W => ref7_Mix _ (u64_wrap_bd (s + (k : Int))) W
      go_wp2_with fail
      refine (HMX.out _).mono ?_
      rintro e w1 ⟨rfl, rfl⟩
      clear hwk hw1
      have he : mixI (IntKind.u64.wrap (s + (k : Int))) % m = gBursts s 1 (k : Int) % m := by unfold gBursts gMixed; rw [Int.ediv_one]
      rw [he] at HW2
      have hW3 := HW2.out
      clear he HMX HW2
      go_wp2_with (first
          | (at_builtin; refine wpList_app _ rfl stInts (.tmp 24) (.tmp 36) rfl w.heap.size u9 k _ rfl (HO.out.alloc _) (wr.heap.size + 1) _ 1 [.int .i64 (gBursts s 1 (k : Int) % m)] rfl (Sl.lit wr #[.int .i64 (gBursts s 1 (k : Int) % m)] _ 1 rfl (by decide)) (by simp [Value.oneCell']) (by omega) (by simp; omega) ?_; intro v2 w2 hown2 hgr2 hat2 hbel2))
      rw [← HU.out] at hown2
      have HO2 := Lib.hid hown2
      have HB2 := Lib.hid ((HBW.out.alloc hsz (.cells #[.int .i64 (gBursts s 1 (k : Int) % m)] 3)).trans hbel2)
      clear hown2 hgr2 hat2 hbel2
      go_wp2
      go_roundw
      case rel => exact ⟨k + 1, by omega, by go_num, HO2.out, HB2.out⟩
      case measure => simp [intOf]; omega
    · have : k = N := by omega
      subst this
      by_cases hcc : (k : Int) < c
      · have hk1 : decide ((k : Int) < c) = true := by simpa using hcc
        have hk2 : decide ((k : Int) < 100000) = false := by have := HN.out; simp; omega
        clear hcc
        go_wp2
        go_ret
        exact Ints.own HO.out HL.out HBW.out
      · have hk1 : decide ((k : Int) < c) = false := by simpa using hcc
        clear hcc
        go_wp2
        go_ret
        exact Ints.own HO.out HL.out HBW.out
theorem ref7_none (m c l s : Int) (hm : m < 1) (w : World) :
    Calls Try.prog 36 #[.int .i64 m, .int .i64 c, .int .i64 l, .int .u64 s] w fun e w' => e = .returned (.slice none 0 0) ∧ w = w' := by
  go_enter Try.func36, Try.ntmps36
  go_wp2
  go_ret
  exact ⟨rfl, rfl⟩
theorem ref7_noneR (m c : Int) (hm : m < 1) (w : World) :
    Calls Try.prog 34 #[.int .i64 m, .int .i64 c] w fun e w' => e = .returned (.slice none 0 0) ∧ w = w' := by
  go_enter Try.func34, Try.ntmps34
  go_wp2
  go_ret
  exact ⟨rfl, rfl⟩
theorem ref7_Round (m c : Int) (hm : m ≤ 9223372036854775807) (hc : c ≤ 9223372036854775807) (w : World) :
    Calls Try.prog 34 #[.int .i64 m, .int .i64 c] w (Ints (turnsL m c gRound) w) := by
  by_cases h : m < 1
  · rw [turnsL_none (Or.inl h)]
    exact (ref7_noneR m c h w).mono fun e w' hh => by obtain ⟨rfl, rfl⟩ := hh; exact Ints.nil _ _ (Below.refl _ _)
  · exact ref7_Round1 m c ⟨by omega, hm⟩ hc w
theorem ref7_Bursts (m c l s : Int) (hm : m ≤ 9223372036854775807) (hc : c ≤ 9223372036854775807) (hl : l ≤ 9223372036854775807) (w : World) :
    Calls Try.prog 36 #[.int .i64 m, .int .i64 c, .int .i64 l, .int .u64 s] w (Ints (turnsL m c (gBursts s (max l 1))) w) := by
  by_cases h : m < 1
  · rw [turnsL_none (Or.inl h)]
    exact (ref7_none m c l s h w).mono fun e w' hh => by obtain ⟨rfl, rfl⟩ := hh; exact Ints.nil _ _ (Below.refl _ _)
  · by_cases h1 : l < 1
    · rw [show max l 1 = 1 by omega]; exact ref7_Bursts2 m c l s ⟨by omega, hm⟩ hc h1 w
    · rw [show max l 1 = l by omega]; exact ref7_Bursts1 m c l s l ⟨by omega, hm⟩ hc hl ⟨by omega, rfl⟩ w
end Go.Proofs.Ythamjkccljhhcab
