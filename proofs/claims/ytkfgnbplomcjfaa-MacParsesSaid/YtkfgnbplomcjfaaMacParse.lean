/-
  Contracts of layer 1's parsers and printers of texts, the program's own and the document's. No statement is proved here.
-/
import Derived.Test.YtkfgnbplomcjfaaMac
namespace Go.Proofs.Ytkfgnbplomcjfaa
open Go.RowKit

theorem tup_ub {a a' : Int} {b b' : Bool} (h : a = a') (h2 : b = b') : Ending.returned (.tuple #[.int .u64 a, .bool b]) = .returned (.tuple #[.int .u64 a', .bool b']) := by rw [h, h2]
theorem tup_ui {a a' : Int} {b b' : Int} (h : a = a') (h2 : b = b') : Ending.returned (.tuple #[.int .u64 a, .int .i64 b]) = .returned (.tuple #[.int .u64 a', .int .i64 b']) := by rw [h, h2]

set_option maxHeartbeats 400000 in
theorem mac_digit (c : Nat) (hc : c < 256) (w : World) :
    Calls Try.prog 43 #[.int .u8 (c : Int)] w fun e w' => e = .returned (.tuple #[.int .u64 ((digN c).getD 0 : Nat), .bool (digN c).isSome]) ∧ w = w' := by
  by_cases h1 : 48 ≤ c ∧ c ≤ 57
  · obtain ⟨a, b⟩ := h1
    have hd : digN c = some (c - 48) := by unfold digN; rw [if_pos ⟨a, b⟩]
    rw [hd]
    clear hd
    go_enter Try.func43, Try.ntmps43
    go_wp2
    go_ret2
    refine ⟨?_, rfl⟩
    exact tup_ub (by show (c : Int) - 48 = ((c - 48 : Nat) : Int); omega) rfl
  · by_cases h2 : 97 ≤ c ∧ c ≤ 102
    · obtain ⟨a, b⟩ := h2
      have hd : digN c = some (c - 87) := by unfold digN; rw [if_neg h1, if_pos ⟨a, b⟩]
      rw [hd]
      clear hd h1
      go_enter Try.func43, Try.ntmps43
      go_wp2
      go_ret2
      refine ⟨?_, rfl⟩
      exact tup_ub (by show (c : Int) - 97 + 10 = ((c - 87 : Nat) : Int); omega) rfl
    · have hd : digN c = none := by unfold digN; rw [if_neg h1, if_neg h2]
      rw [hd]
      clear hd
      go_enter Try.func43, Try.ntmps43
      go_wp2
      all_goals first | (exfalso; omega) | (go_ret2; exact ⟨rfl, rfl⟩)
set_option maxHeartbeats 400000 in
theorem ref_digit (c : Nat) (hc : c < 256) (w : World) :
    Calls Try.prog 44 #[.int .u8 (c : Int)] w fun e w' => e = .returned (.int .i64 (match digN c with | some d => (d : Int) | none => -1)) ∧ w = w' := by
  by_cases h1 : 48 ≤ c ∧ c ≤ 57
  · obtain ⟨a, b⟩ := h1
    have hd : digN c = some (c - 48) := by unfold digN; rw [if_pos ⟨a, b⟩]
    rw [hd]
    clear hd
    go_enter Try.func44, Try.ntmps44
    go_wp2
    go_ret
    refine ⟨ret_i64 ?_, rfl⟩
    show (c : Int) - 48 = ((c - 48 : Nat) : Int)
    omega
  · by_cases h2 : 97 ≤ c ∧ c ≤ 102
    · obtain ⟨a, b⟩ := h2
      have hd : digN c = some (c - 87) := by unfold digN; rw [if_neg h1, if_pos ⟨a, b⟩]
      rw [hd]
      clear hd h1
      go_enter Try.func44, Try.ntmps44
      go_wp2
      go_ret
      refine ⟨ret_i64 ?_, rfl⟩
      show (c : Int) - 97 + 10 = ((c - 87 : Nat) : Int)
      omega
    · have hd : digN c = none := by unfold digN; rw [if_neg h1, if_neg h2]
      rw [hd]
      clear hd
      go_enter Try.func44, Try.ntmps44
      go_wp2
      all_goals first | (exfalso; omega) | (go_ret; exact ⟨rfl, rfl⟩)

/-- What a parser answers. -/
def Parsed (good : Nat → Value) (bad : Value) (r : Option Nat) (w : World) (e : Ending) (w' : World) : Prop :=
  e = .returned (match r with | some n => good n | none => bad) ∧ w = w'

set_option maxHeartbeats 1000000 in
theorem mac_Parse (s : ByteArray) (w : World) :
    Calls Try.prog 28 #[.string s] w (Parsed (fun n => .tuple #[.int .u64 (n : Int), .int .i64 0]) (.tuple #[.int .u64 0, .int .i64 4]) (parseN (sl s)) w) := by
  by_cases h17 : s.size = 17
  · have hN : parseN (sl s) = parK (sl s) 17 := by unfold parseN; rw [if_pos (by rw [sl_length]; exact h17)]
    rw [hN]
    have HN := Lib.hid hN
    have hne : ((s.size : Int) != 17) = false := by simp; omega
    have H17 := Lib.hid h17
    clear hN h17
    go_enter Try.func28, Try.ntmps28
    go_wp2
    go_loop [4, 5] (fun m i => ∃ k n : Nat, k ≤ 17 ∧ i = .int .i64 k ∧ m = .int .u64 n ∧ Hid (parK (sl s) k = some n)) (fun _ i => 17 - (intOf i).toNat)
    case atStart => exact ⟨0, 0, by omega, rfl, rfl, rfl⟩
    case round =>
      obtain ⟨k, n, hk, rfl, rfl, HP⟩ := hrel
      by_cases hlt : k < 17
      · have hks : k < s.size := by have := H17.out; omega
        have hat := sl_at s k hks
        have hb := sl_lt s k
        obtain ⟨c, hc⟩ : ∃ c, c = (sl s).getD k 0 := ⟨_, rfl⟩
        have HC := Lib.hid hc
        rw [← hc] at hat hb
        clear hc
        have hn := parK_small HP.out hk
        by_cases h3 : k % 3 = 2
        · have h3' : ((k : Int) % 3 == 2) = true := by simp; omega
          by_cases h45 : c = 45
          · have hd : (((s[k]'hks).toNat : Int) != 45) = false := by rw [hat, h45]; rfl
            have HS : Hid (parK (sl s) (k + 1) = some n) := by
              show _ = _
              rw [parK_sep HP.out h3, if_pos (by rw [← HC.out]; exact h45)]
            clear h45 hat h3
            go_wp2
            go_round
            case rel => exact ⟨k + 1, n, by omega, by go_num, rfl, HS⟩
            case measure => simp [intOf]; omega
          · have hd : (((s[k]'hks).toNat : Int) != 45) = true := by rw [hat]; simp; omega
            have HS : Hid (parK (sl s) 17 = none) := by
              refine parK_none (k := k + 1) ?_ (by omega)
              rw [parK_sep HP.out h3, if_neg (by rw [← HC.out]; exact h45)]
            clear h45 hat h3
            go_wp2
            go_ret2
            exact ⟨by rw [HS.out]; rfl, rfl⟩
        · have h3' : ((k : Int) % 3 == 2) = false := by simp; omega
          have hd := parK_dig HP.out h3
          rw [← HC.out] at hd
          have HD := Lib.hid hd
          clear hd h3
          go_wp2_with fail
          refine (mac_digit _ hb _).mono ?_
          rintro e w' ⟨rfl, rfl⟩
          clear hat
          cases hx : digN c with
          | none =>
            have HS : Hid (parK (sl s) 17 = none) := by
              refine parK_none (k := k + 1) ?_ (by omega)
              rw [HD.out, hx]; rfl
            clear hx
            go_wp2
            go_ret2
            exact ⟨by rw [HS.out]; rfl, rfl⟩
          | some d =>
            have hd16 := digN_lt hx
            have HS : Hid (parK (sl s) (k + 1) = some (n * 16 + d)) := by
              show _ = _
              rw [HD.out, hx]; rfl
            clear hx
            have hor : bits .or .u64 ((n : Int) * 16) (d : Int) = ((n * 16 + d : Nat) : Int) := by
              have := u64_or_nat (n * 16) d (by omega) (by omega)
              rw [or_nib n d hd16] at this
              simpa using this
            go_wp2
            go_round
            case rel => exact ⟨k + 1, n * 16 + d, by omega, by go_num, by go_num, HS⟩
            case measure => simp [intOf]; omega
      · have : k = 17 := by omega
        subst this
        go_wp2
        go_ret2
        exact ⟨by rw [HP.out]; rfl, rfl⟩
  · have hN : parseN (sl s) = none := by unfold parseN; rw [if_neg (by rw [sl_length]; exact h17)]
    rw [hN]
    have hne : ((s.size : Int) != 17) = true := by simp; omega
    clear hN
    go_enter Try.func28, Try.ntmps28
    go_wp2
    go_ret2
    exact ⟨rfl, rfl⟩

set_option maxHeartbeats 1000000 in
theorem ref_Parse (s : ByteArray) (w : World) :
    Calls Try.prog 30 #[.string s] w (Parsed (fun n => .tuple #[.int .u64 (n : Int), .bool true]) (.tuple #[.int .u64 0, .bool false]) (parseN (sl s)) w) := by
  by_cases h17 : s.size = 17
  · have hN : parseN (sl s) = parK (sl s) 17 := by unfold parseN; rw [if_pos (by rw [sl_length]; exact h17)]
    rw [hN]
    have HN := Lib.hid hN
    have hne : ((s.size : Int) != 17) = false := by simp; omega
    have H17 := Lib.hid h17
    clear hN h17
    go_enter Try.func30, Try.ntmps30
    go_wp2
    go_loop [4, 5] (fun m i => ∃ k n : Nat, k ≤ 17 ∧ i = .int .i64 k ∧ m = .int .u64 n ∧ Hid (parK (sl s) k = some n)) (fun _ i => 17 - (intOf i).toNat)
    case atStart => exact ⟨0, 0, by omega, rfl, rfl, rfl⟩
    case round =>
      obtain ⟨k, n, hk, rfl, rfl, HP⟩ := hrel
      by_cases hlt : k < 17
      · have hks : k < s.size := by have := H17.out; omega
        have hat := sl_at s k hks
        have hb := sl_lt s k
        obtain ⟨c, hc⟩ : ∃ c, c = (sl s).getD k 0 := ⟨_, rfl⟩
        have HC := Lib.hid hc
        rw [← hc] at hat hb
        clear hc
        have hn := parK_small HP.out hk
        by_cases h3 : k % 3 = 2
        · have h3' : ((k : Int) % 3 == 2) = true := by simp; omega
          by_cases h45 : c = 45
          · have hd : (((s[k]'hks).toNat : Int) != 45) = false := by rw [hat, h45]; rfl
            have HS : Hid (parK (sl s) (k + 1) = some n) := by
              show _ = _
              rw [parK_sep HP.out h3, if_pos (by rw [← HC.out]; exact h45)]
            clear h45 hat h3
            go_wp2
            go_round
            case rel => exact ⟨k + 1, n, by omega, by go_num, rfl, HS⟩
            case measure => simp [intOf]; omega
          · have hd : (((s[k]'hks).toNat : Int) != 45) = true := by rw [hat]; simp; omega
            have HS : Hid (parK (sl s) 17 = none) := by
              refine parK_none (k := k + 1) ?_ (by omega)
              rw [parK_sep HP.out h3, if_neg (by rw [← HC.out]; exact h45)]
            clear h45 hat h3
            go_wp2
            go_ret2
            exact ⟨by rw [HS.out]; rfl, rfl⟩
        · have h3' : ((k : Int) % 3 == 2) = false := by simp; omega
          have hd := parK_dig HP.out h3
          rw [← HC.out] at hd
          have HD := Lib.hid hd
          clear hd h3
          go_wp2_with fail
          refine (ref_digit _ hb _).mono ?_
          rintro e w' ⟨rfl, rfl⟩
          clear hat
          cases hx : digN c with
          | none =>
            have HS : Hid (parK (sl s) 17 = none) := by
              refine parK_none (k := k + 1) ?_ (by omega)
              rw [HD.out, hx]; rfl
            clear hx
            go_wp2
            go_ret2
            exact ⟨by rw [HS.out]; rfl, rfl⟩
          | some d =>
            have hd16 := digN_lt hx
            have HS : Hid (parK (sl s) (k + 1) = some (n * 16 + d)) := by
              show _ = _
              rw [HD.out, hx]; rfl
            clear hx
            go_wp2
            go_round
            case rel => exact ⟨k + 1, n * 16 + d, by omega, by go_num, by go_num, HS⟩
            case measure => simp [intOf]; omega
      · have : k = 17 := by omega
        subst this
        go_wp2
        go_ret2
        exact ⟨by rw [HP.out]; rfl, rfl⟩
  · have hN : parseN (sl s) = none := by unfold parseN; rw [if_neg (by rw [sl_length]; exact h17)]
    rw [hN]
    have hne : ((s.size : Int) != 17) = true := by simp; omega
    clear hN
    go_enter Try.func30, Try.ntmps30
    go_wp2
    go_ret2
    exact ⟨rfl, rfl⟩
end Go.Proofs.Ytkfgnbplomcjfaa
