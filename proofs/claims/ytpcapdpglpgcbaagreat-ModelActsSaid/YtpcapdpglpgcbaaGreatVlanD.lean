/-
  Words and contracts that a statement's proof rests on (PlainVlanC, PlainMo, VlanD, VlanG, PlainFx). No statement is proved here.
-/
import Derived.Deep.QuietTactic
import Derived.Test.YtpcapdpglpgcbaaGreatBase
import Derived.Test.YtpcapdpglpgcbaaGreatKit
import Derived.Test.YtpcapdpglpgcbaaGreatMac
set_option linter.unusedVariables false
set_option linter.unusedSimpArgs false
namespace Go.Proofs.YtpcapdpglpgcbaaGreat
section
def withinK (a b : Nat) : Nat → Bool
 | 0 => true
 | k + 1 => withinK a b k && !(a.testBit k && !b.testBit k)
def withinB (a b : Nat) : Bool := withinK a b 64
theorem withinK_iff (a b : Nat) : ∀ k, withinK a b k = true ↔ ∀ i, i < k → a.testBit i = true → b.testBit i = true
 | 0 => by simp [withinK]
 | k + 1 => by
  rw [withinK, Bool.and_eq_true, withinK_iff a b k]
  constructor
  ·rintro ⟨h1, h2⟩ i hi ha
   rcases Nat.lt_or_ge i k with h | h
   ·exact h1 i h ha
   ·obtain rfl : i = k := by omega
    rw [ha] at h2
    simpa using h2
  ·intro h
   refine ⟨fun i hi => h i (by omega), ?_⟩
   cases hk : a.testBit k
   ·rfl
   ·rw [h k (by omega) hk]; rfl
theorem andNot_within {a b : Nat} (ha : a < 18446744073709551616) (hb : b < 18446744073709551616) : (((a &&& (18446744073709551615 - b) : Nat) : Int) != 0) = !withinB a b := by
 have e : 18446744073709551615 - b = 2 ^ 64 - (b + 1) := by omega
 have hz : (a &&& (18446744073709551615 - b) = 0) ↔ withinB a b = true := by
  unfold withinB
  rw [withinK_iff, e]
  constructor
  ·intro h i hi hai
   have h2 := congrArg (fun x => x.testBit i) h
   simp only [Nat.testBit_and, Nat.zero_testBit] at h2
   rw [Nat.testBit_two_pow_sub_succ (by omega), hai] at h2
   simpa [hi] using h2
  ·intro h
   apply Nat.eq_of_testBit_eq
   intro i
   rw [Nat.testBit_and, Nat.zero_testBit, Nat.testBit_two_pow_sub_succ (by omega)]
   by_cases hi : i < 64
   ·cases hai : a.testBit i
    ·rfl
    ·rw [h i hi hai]; simp
   ·have : a.testBit i = false := Nat.testBit_lt_two_pow (Nat.lt_of_lt_of_le ha (show 2 ^ 64 ≤ 2 ^ i from Nat.pow_le_pow_right (by omega) (by omega)))
    simp [this]
 generalize a &&& (18446744073709551615 - b) = x at *
 cases h : withinB a b
 ·have : ¬ x = 0 := fun hx => by rw [hz.1 hx] at h; cases h
  simp; omega
 ·have := hz.2 h
  subst this
  rfl
def allN (n : Int) : Nat := if 64 ≤ n then 18446744073709551615 else 2 ^ n.toNat - 1
theorem allN_lt (n : Int) : allN n < 18446744073709551616 := by
 unfold allN
 split
 ·omega
 ·rename_i h
  have := bit_lt (show n.toNat < 64 by omega)
  omega
theorem with_ones (k : Nat) (hk : k < 64) : withN (2 ^ k - 1) (k : Int) = 2 ^ (k + 1) - 1 := by
 have h0 := Nat.two_pow_pos k
 have h1 := bit_lt hk
 rw [withN_in _ hk, or_bit_add (by omega) hk (by rw [Nat.testBit_two_pow_sub_one]; simp), Nat.pow_succ]
 omega
def vidB (v : Int) : Bool := decide (1 ≤ v) && decide (v ≤ 4094)
def ruleB (p a : Int) : Bool := vidB p && (decide (0 ≤ a) && decide (a ≤ 2))
def wrongAt (l : List Vl) (ports : Int) (i : Nat) : Nat :=
 if vidB (l.getD i vl0).vid = false ∨ (0 < i ∧ (l.getD i vl0).vid ≤ (l.getD (i - 1) vl0).vid) then 6
 else if withinB (l.getD i vl0).mem (allN ports) = false then 5
 else if withinB (l.getD i vl0).unt (l.getD i vl0).mem = false then 1 else 0
def firstW (f : Nat → Nat) : Nat → Nat
 | 0 => 0
 | k + 1 => if firstW f k = 0 then f k else firstW f k
theorem firstW_none (f : Nat → Nat) : ∀ k, (∀ i, i < k → f i = 0) → firstW f k = 0
 | 0, _ => rfl
 | k + 1, h => by
  rw [firstW, firstW_none f k fun i hi => h i (by omega), if_pos rfl]
  exact h k (by omega)
theorem firstW_at (f : Nat → Nat) (k : Nat) (h : ∀ i, i < k → f i = 0) (hk : f k ≠ 0) : ∀ n, k < n → firstW f n = f k
 | 0, h0 => by omega
 | n + 1, h0 => by
  rw [firstW]
  rcases Nat.lt_or_ge k n with h1 | h1
  ·rw [firstW_at f k h hk n h1, if_neg hk]
  ·obtain rfl : k = n := by omega
   rw [firstW_none f k h, if_pos rfl]
def checkN (l : List Vl) (ports : Int) (n : Nat) : Nat := if ports < 2 ∨ 64 < ports then 5 else if 16 < n then 8 else firstW (wrongAt l ports) n
theorem check5 {l : List Vl} {ports : Int} {n : Nat} (h : ports < 2 ∨ 64 < ports) : checkN l ports n = 5 := by unfold checkN; rw [if_pos h]
theorem check8 {l : List Vl} {ports : Int} {n : Nat} (h : ¬ (ports < 2 ∨ 64 < ports)) (h2 : 16 < n) : checkN l ports n = 8 := by unfold checkN; rw [if_neg h, if_pos h2]
theorem check0 {l : List Vl} {ports : Int} {n : Nat} (h : ¬ (ports < 2 ∨ 64 < ports)) (h2 : ¬ 16 < n) (h3 : ∀ i, i < n → wrongAt l ports i = 0) : checkN l ports n = 0 := by unfold checkN; rw [if_neg h, if_neg h2]; exact firstW_none _ _ h3
theorem checkAt {l : List Vl} {ports : Int} {n k E : Nat} (h : ¬ (ports < 2 ∨ 64 < ports)) (h2 : ¬ 16 < n) (h3 : ∀ i, i < k → wrongAt l ports i = 0) (hk : k < n) (he : wrongAt l ports k = E) (hE : E ≠ 0) : checkN l ports n = E := by
 unfold checkN; rw [if_neg h, if_neg h2, firstW_at _ k h3 (by rw [he]; exact hE) n hk]; exact he
end
section
open Go.RowKit
structure Rl where
 pv : Int
 ac : Int
def rl0 : Rl := ⟨0, 0⟩
def Rl.cells (x : Rl) : List Value := [.int .i64 x.pv, .int .i64 x.ac]
def rlc : List Rl → List Value
 | [] => []
 | x :: l => x.cells ++ rlc l
theorem rlc_length : ∀ l : List Rl, (rlc l).length = l.length * 2
 | [] => rfl
 | x :: l => by
  have := rlc_length l
  simp [rlc, Rl.cells, this]
  omega
theorem rlc_append : ∀ a b : List Rl, rlc (a ++ b) = rlc a ++ rlc b
 | [], b => rfl
 | x :: a, b => by simp [rlc, rlc_append a b]
theorem rlc_at : ∀ (l : List Rl) (j f : Nat), f < 2 → (rlc l)[j * 2 + f]? = (l[j]?).bind fun x => x.cells[f]?
 | [], j, f, _ => by simp [rlc]
 | x :: l, 0, f, h => by
  rw [rlc, List.getElem?_append_left (by simp [Rl.cells]; omega)]
  simp
 | x :: l, j + 1, f, h => by
  have := rlc_at l j f h
  rw [rlc, List.getElem?_append_right (by simp [Rl.cells]; omega)]
  have e : (j + 1) * 2 + f - x.cells.length = j * 2 + f := by simp [Rl.cells]; omega
  rw [e, this]
  simp
theorem Sl.rlAt {w : World} {B n : Nat} {v : Value} {l : List Rl} (h : Sl w B 2 v n (rlc l)) (hn : 0 < n) :
  ∃ b off cap, v = .slice (some ⟨b, off, none⟩) n cap ∧ n ≤ cap ∧ cap ≤ maxLen ∧ b < B ∧ l.length = n ∧
   ∀ j, j < n → w.cell? ⟨b, off + j * 2, none⟩ = some (.int .i64 (l.getD j rl0).pv) ∧ w.cell? ⟨b, off + j * 2 + 1, none⟩ = some (.int .i64 (l.getD j rl0).ac) := by
 have hl := h.len
 rw [rlc_length] at hl
 obtain ⟨b, off, cap, rfl, h1, h2, h3, h4⟩ := h.at_ hn
 refine ⟨b, off, cap, rfl, h1, h2, h3, by omega, fun j hj => ?_⟩
 have hjl : j < l.length := by omega
 have a0 := h4 (j * 2 + 0) (by omega)
 have a1 := h4 (j * 2 + 1) (by omega)
 rw [rlc_at l j _ (by omega), List.getElem?_eq_getElem hjl] at a0 a1
 simp only [List.getD_eq_getElem?_getD, List.getElem?_eq_getElem hjl, Option.getD_some]
 exact ⟨a0, a1⟩
theorem Sl.rlLen {w : World} {B n : Nat} {v : Value} {l : List Rl} (h : Sl w B 2 v n (rlc l)) : l.length = n := by
 have hl := h.len
 rw [rlc_length] at hl
 omega
def badR (l : List Rl) (k : Nat) : Bool := !(ruleB (l.getD k rl0).pv (l.getD k rl0).ac)
def FirstBad (l : List Rl) (n m : Nat) : Prop := m ≤ n ∧ (∀ i, i < m → badR l i = false) ∧ (m < n → badR l m = true)
def withinI (n most : Int) : Bool := decide (1 ≤ n) && decide (n ≤ most)
end
section
open Go.RowKit
set_option maxHeartbeats 800000 in
theorem vlan_Find {l : List Vl} {n : Nat} {v : Value} {w : World} {B : Nat} (hv : Sl w B 3 v n (vlc l)) (hB : B ≤ w.heap.size) (vid : Int) :
  Calls Tryz.prog 76 #[v, .int .i64 vid] w (Says (.int .i64 (findN l vid n)) w) := by
 by_cases hn0 : 0 < n
 ·obtain ⟨b, off, cap, rfl, hcap, hmx, hb, hlen, hcell⟩ := hv.vlAt hn0
  unfold maxLen at hmx
  have HC := Lib.hid hcell
  have HV := Lib.hid hv
  clear hv hcell hlen
  go_enter Tryz.func76, Tryz.ntmps76
  go_wp2
  go_loopw [9] (fun i wr => ∃ k : Nat, k ≤ n ∧ i = .int .i64 k ∧ Hid (∀ i, i < k → vidAt l vid i = false) ∧ Hid (Below w.heap.size w wr)) (fun i _ => n - (intOf i).toNat)
  case atStart => exact ⟨0, by omega, rfl, fun i hi => by omega, Below.refl _ _⟩
  case round =>
   obtain ⟨k, hk, rfl, HF, HBW⟩ := hrel
   rename_i wr _
   by_cases hlt : k < n
   ·obtain ⟨c0, c1, c2⟩ := HC.out k hlt
    have hbw := (bcell HBW.out).1
    have e0 := (hbw b (off + k * 3) (by omega)).trans c0
    have e1 := (hbw b (off + k * 3 + 1) (by omega)).trans c1
    have e2 := (hbw b (off + k * 3 + 2) (by omega)).trans c2
    obtain ⟨x, hx⟩ : ∃ x, x = l.getD k vl0 := ⟨_, rfl⟩
    rw [← hx] at e0 e1 e2
    have hvid : vidAt l vid k = (x.vid == vid) := by unfold vidAt; rw [← hx]
    have HVID := Lib.hid hvid
    clear hbw c0 c1 c2 hx hvid HC
    cases hxv : x.vid == vid
    ·rw [hxv] at HVID
     have hne : ¬ x.vid = vid := by simpa using hxv
     clear hxv
     go_wp2
     go_roundw
     case rel => exact ⟨k + 1, by omega, by go_num, fun i hi => by
       rcases Nat.lt_or_ge i k with h | h
       ·exact HF.out i h
       ·obtain rfl : i = k := by omega
        exact HVID.out, HBW.out.alloc HBW.out.size _⟩
     case measure => simp [intOf]; omega
    ·rw [hxv] at HVID
     have heq : x.vid = vid := by simpa using hxv
     clear hxv
     go_wp2
     go_ret
     exact ⟨ret_i64 (by unfold findN; rw [firstI_at _ k HF.out HVID.out n hlt]), HBW.out.alloc HBW.out.size _⟩
   ·have : k = n := by omega
    subst this
    go_wp2
    go_ret
    exact ⟨ret_i64 (by unfold findN; rw [firstI_none _ _ HF.out]), HBW.out⟩
 ·obtain rfl : n = 0 := by omega
  obtain ⟨A, cap, rfl, hcap, hmx⟩ := hv.form
  clear hv hn0
  go_enter Tryz.func76, Tryz.ntmps76
  go_wp2
  go_loopw [9] (fun i wr => i = .int .i64 0 ∧ wr = w) (fun _ _ => 0)
  case atStart => exact ⟨rfl, rfl⟩
  case round =>
   obtain ⟨rfl, rfl⟩ := hrel
   go_wp2
   go_ret
   exact ⟨rfl, Below.refl _ _⟩
set_option maxHeartbeats 800000 in
theorem ref3_Find {l : List Vl} {n : Nat} {v : Value} {w : World} {B : Nat} (hv : Sl w B 3 v n (vlc l)) (hB : B ≤ w.heap.size) (vid : Int) :
  Calls Tryz.prog 45 #[v, .int .i64 vid] w (Says (.int .i64 (findN l vid n)) w) := by
 by_cases hn0 : 0 < n
 ·obtain ⟨b, off, cap, rfl, hcap, hmx, hb, hlen, hcell⟩ := hv.vlAt hn0
  unfold maxLen at hmx
  have HC := Lib.hid hcell
  have HV := Lib.hid hv
  clear hv hcell hlen
  go_enter Tryz.func45, Tryz.ntmps45
  go_wp2
  go_loopw [5] (fun i wr => ∃ k : Nat, k ≤ n ∧ i = .int .i64 k ∧ Hid (∀ i, i < k → vidAt l vid i = false) ∧ Hid (Below w.heap.size w wr)) (fun i _ => n - (intOf i).toNat)
  case atStart => exact ⟨0, by omega, rfl, fun i hi => by omega, Below.refl _ _⟩
  case round =>
   obtain ⟨k, hk, rfl, HF, HBW⟩ := hrel
   rename_i wr _
   by_cases hlt : k < n
   ·obtain ⟨c0, c1, c2⟩ := HC.out k hlt
    have hbw := (bcell HBW.out).1
    have e0 := (hbw b (off + k * 3) (by omega)).trans c0
    have e1 := (hbw b (off + k * 3 + 1) (by omega)).trans c1
    have e2 := (hbw b (off + k * 3 + 2) (by omega)).trans c2
    obtain ⟨x, hx⟩ : ∃ x, x = l.getD k vl0 := ⟨_, rfl⟩
    rw [← hx] at e0 e1 e2
    have hvid : vidAt l vid k = (x.vid == vid) := by unfold vidAt; rw [← hx]
    have HVID := Lib.hid hvid
    clear hbw c0 c1 c2 hx hvid HC
    cases hxv : x.vid == vid
    ·rw [hxv] at HVID
     have hne : ¬ x.vid = vid := by simpa using hxv
     clear hxv
     go_wp2
     go_roundw
     case rel => exact ⟨k + 1, by omega, by go_num, fun i hi => by
       rcases Nat.lt_or_ge i k with h | h
       ·exact HF.out i h
       ·obtain rfl : i = k := by omega
        exact HVID.out, HBW.out⟩
     case measure => simp [intOf]; omega
    ·rw [hxv] at HVID
     have heq : x.vid = vid := by simpa using hxv
     clear hxv
     go_wp2
     go_ret
     exact ⟨ret_i64 (by unfold findN; rw [firstI_at _ k HF.out HVID.out n hlt]), HBW.out⟩
   ·have : k = n := by omega
    subst this
    go_wp2
    go_ret
    exact ⟨ret_i64 (by unfold findN; rw [firstI_none _ _ HF.out]), HBW.out⟩
 ·obtain rfl : n = 0 := by omega
  obtain ⟨A, cap, rfl, hcap, hmx⟩ := hv.form
  clear hv hn0
  go_enter Tryz.func45, Tryz.ntmps45
  go_wp2
  go_loopw [5] (fun i wr => i = .int .i64 0 ∧ wr = w) (fun _ _ => 0)
  case atStart => exact ⟨rfl, rfl⟩
  case round =>
   obtain ⟨rfl, rfl⟩ := hrel
   go_wp2
   go_ret
   exact ⟨rfl, Below.refl _ _⟩
end
section
open Go.RowKit
set_option maxHeartbeats 400000 in
theorem vlan_rightVid (v : Int) (w : World) :
  Calls Tryz.prog 104 #[.int .i64 v] w fun e w' => e = .returned (.bool (vidB v)) ∧ w = w' := by
 unfold vidB
 by_cases h1 : 1 ≤ v
 ·go_enter Tryz.func104, Tryz.ntmps104
  go_wp2
  go_ret
  exact ⟨ret_bool (by simp [h1]), rfl⟩
 ·go_enter Tryz.func104, Tryz.ntmps104
  go_wp2
  go_ret
  exact ⟨ret_bool (by simp; omega), rfl⟩
set_option maxHeartbeats 400000 in
theorem vlan_Right (p a : Int) (w : World) :
  Calls Tryz.prog 106 #[.agg #[.int .i64 p, .int .i64 a]] w (Says (.bool (ruleB p a)) w) := by
 unfold ruleB
 have hV := fun W => vlan_rightVid p W
 generalize vidB p = z at *
 have HV := Lib.hid hV
 clear hV
 cases z
 ·go_enter Tryz.func106, Tryz.ntmps106
  go_wp2_with fail
  refine (HV.out _).mono ?_
  rintro e w1 ⟨rfl, rfl⟩
  go_wp2
  go_ret
  exact ⟨ret_bool (by simp), (Below.refl _ _).alloc (Nat.le_refl _) _⟩
 ·by_cases h1 : 0 ≤ a
  ·go_enter Tryz.func106, Tryz.ntmps106
   go_wp2_with fail
   refine (HV.out _).mono ?_
   rintro e w1 ⟨rfl, rfl⟩
   go_wp2
   go_ret
   exact ⟨ret_bool (by simp [h1]), (Below.refl _ _).alloc (Nat.le_refl _) _⟩
  ·go_enter Tryz.func106, Tryz.ntmps106
   go_wp2_with fail
   refine (HV.out _).mono ?_
   rintro e w1 ⟨rfl, rfl⟩
   go_wp2
   go_ret
   exact ⟨ret_bool (by simp; omega), (Below.refl _ _).alloc (Nat.le_refl _) _⟩
set_option maxHeartbeats 400000 in
theorem vlan_All (n : Int) (w : World) :
  Calls Tryz.prog 86 #[.int .i64 n] w fun e w' => e = .returned (.int .u64 (allN n : Nat)) ∧ w = w' := by
 unfold allN
 by_cases h : 64 ≤ n
 ·rw [if_pos h]
  go_enter Tryz.func86, Tryz.ntmps86
  go_wp2
  go_ret
  exact ⟨rfl, rfl⟩
 ·rw [if_neg h]
  by_cases h0 : n < 0
  ·have : n.toNat = 0 := by omega
   rw [this]
   go_enter Tryz.func86, Tryz.ntmps86
   go_wp2
   all_goals go_ret
   all_goals exact ⟨ret_u64 (by simp), rfl⟩
  ·obtain ⟨k, rfl⟩ := Int.eq_ofNat_of_zero_le (show 0 ≤ n by omega)
   have hk : k < 64 := by omega
   rw [Int.toNat_natCast]
   have hb := bit_wrap hk
   have hl := bit_lt hk
   have hp := Nat.two_pow_pos k
   have hs : IntKind.u64.wrap (((2 ^ k : Nat) : Int) - 1) = ((2 ^ k - 1 : Nat) : Int) := by
    rw [IntWalk.u64_in _ (by omega)]; omega
   have HB := Lib.hid hb
   have HS := Lib.hid hs
   clear hb hs hl hp
   go_enter Tryz.func86, Tryz.ntmps86
   go_wp2
   all_goals go_ret
   all_goals exact ⟨ret_u64 (by rw [HB.out, HS.out]), rfl⟩
set_option maxHeartbeats 400000 in
theorem ref3_All (n : Int) (w : World) :
  Calls Tryz.prog 19 #[.int .i64 n] w fun e w' => e = .returned (.int .u64 (allN n : Nat)) ∧ w = w' := by
 obtain ⟨m, hm⟩ : ∃ m : Nat, m = if 64 ≤ n then 64 else n.toNat := ⟨_, rfl⟩
 have hm64 : m ≤ 64 := by rw [hm]; split <;> omega
 have hstop : ∀ k : Nat, k < m ↔ ((k : Int) < n ∧ k < 64) := fun k => by rw [hm]; split <;> omega
 have hval : allN n = 2 ^ m - 1 := by unfold allN; rw [hm]; split <;> rfl
 obtain ⟨A, hA⟩ : ∃ A, A = allN n := ⟨_, rfl⟩
 rw [← hA] at hval ⊢
 have HV := Lib.hid hval
 have HS := Lib.hid hstop
 clear hm hA hval hstop
 go_enter Tryz.func19, Tryz.ntmps19
 go_wp2
 go_loop [3, 4] (fun s i => ∃ k y : Nat, k ≤ m ∧ i = .int .i64 k ∧ s = .int .u64 (y : Nat) ∧ Hid (y = 2 ^ k - 1)) (fun _ i => m - (intOf i).toNat)
 case atStart => exact ⟨0, 0, by omega, rfl, rfl, rfl⟩
 case round =>
  obtain ⟨k, y, hk, rfl, rfl, HY⟩ := hrel
  by_cases hlt : k < m
  ·obtain ⟨h1, h2⟩ := (HS.out k).1 hlt
   have hyl : y < 18446744073709551616 := by
    have := bit_lt h2
    rw [HY.out]; omega
   have hW := fun W => ref3_With y hyl (k : Int) W
   have hw2 : withN y (k : Int) = 2 ^ (k + 1) - 1 := by rw [HY.out]; exact with_ones k h2
   obtain ⟨z, hz⟩ : ∃ z, z = withN y (k : Int) := ⟨_, rfl⟩
   rw [← hz] at hW hw2
   have HW := Lib.hid hW
   have HZ : Hid (z = 2 ^ (k + 1) - 1) := hw2
   have h2' : (k : Int) < 64 := by omega
   clear hW hw2 hz hyl
   go_wp2_with fail
   refine (HW.out _).mono ?_
   rintro e w1 ⟨rfl, rfl⟩
   go_wp2
   go_round
   case rel => exact ⟨k + 1, z, by omega, by go_num, rfl, HZ⟩
   case measure => simp [intOf]; omega
  ·have : k = m := by omega
   subst this
   have hn : ¬ ((k : Int) < n ∧ k < 64) := fun h => hlt ((HS.out k).2 h)
   by_cases h1 : (k : Int) < n
   ·have h2 : ¬ (k : Int) < 64 := by omega
    go_wp2
    go_ret
    exact ⟨ret_u64 (by rw [HV.out, HY.out]), rfl⟩
   ·go_wp2
    go_ret
    exact ⟨ret_u64 (by rw [HV.out, HY.out]), rfl⟩
def aheadN (l : List Vl) (k : Nat) : Int := if k = 0 then 0 else (l.getD (k - 1) vl0).vid
theorem wrong6a {l : List Vl} {ports : Int} {k : Nat} (h : vidB (l.getD k vl0).vid = false) : wrongAt l ports k = 6 := by unfold wrongAt; rw [if_pos (.inl h)]
theorem wrong6b {l : List Vl} {ports : Int} {k : Nat} (h : vidB (l.getD k vl0).vid = true) (h2 : (l.getD k vl0).vid ≤ aheadN l k) : wrongAt l ports k = 6 := by
 have h3 : 0 < k ∧ (l.getD k vl0).vid ≤ (l.getD (k - 1) vl0).vid := by
  unfold aheadN at h2
  unfold vidB at h
  simp only [Bool.and_eq_true, decide_eq_true_eq] at h
  split at h2
  ·omega
  ·exact ⟨by omega, h2⟩
 unfold wrongAt
 rw [if_pos (.inr h3)]
theorem wrongC {l : List Vl} {k : Nat} (h : vidB (l.getD k vl0).vid = true) (h2 : ¬ (l.getD k vl0).vid ≤ aheadN l k) : ¬ (vidB (l.getD k vl0).vid = false ∨ (0 < k ∧ (l.getD k vl0).vid ≤ (l.getD (k - 1) vl0).vid)) := by
 rintro (h3 | ⟨h3, h4⟩)
 ·rw [h] at h3; cases h3
 ·apply h2
  unfold aheadN
  rw [if_neg (by omega)]
  exact h4
theorem wrong5 {l : List Vl} {ports : Int} {k : Nat} (h : vidB (l.getD k vl0).vid = true) (h2 : ¬ (l.getD k vl0).vid ≤ aheadN l k) (h3 : withinB (l.getD k vl0).mem (allN ports) = false) : wrongAt l ports k = 5 := by
 unfold wrongAt; rw [if_neg (wrongC h h2), if_pos h3]
theorem wrong1 {l : List Vl} {ports : Int} {k : Nat} (h : vidB (l.getD k vl0).vid = true) (h2 : ¬ (l.getD k vl0).vid ≤ aheadN l k) (h3 : withinB (l.getD k vl0).mem (allN ports) = true) (h4 : withinB (l.getD k vl0).unt (l.getD k vl0).mem = false) : wrongAt l ports k = 1 := by
 unfold wrongAt; rw [if_neg (wrongC h h2), if_neg (by rw [h3]; simp), if_pos h4]
theorem wrong0 {l : List Vl} {ports : Int} {k : Nat} (h : vidB (l.getD k vl0).vid = true) (h2 : ¬ (l.getD k vl0).vid ≤ aheadN l k) (h3 : withinB (l.getD k vl0).mem (allN ports) = true) (h4 : withinB (l.getD k vl0).unt (l.getD k vl0).mem = true) : wrongAt l ports k = 0 := by
 unfold wrongAt; rw [if_neg (wrongC h h2), if_neg (by rw [h3]; simp), if_neg (by rw [h4]; simp)]
theorem all_step {f : Nat → Nat} {k : Nat} (h : ∀ i, i < k → f i = 0) (hk : f k = 0) : ∀ i, i < k + 1 → f i = 0 := by
 intro i hi
 rcases Nat.lt_or_ge i k with h1 | h1
 ·exact h i h1
 ·obtain rfl : i = k := by omega
  exact hk
end
section
open Go.RowKit
def fx (k : Nat) (x : Int) : Nat := (IntKind.u64.wrap x).toNat % k
theorem u64_nonneg (x : Int) : 0 ≤ IntKind.u64.wrap x := by rw [IntKind.wrap_u64]; omega
theorem fx_tmod (k : Nat) (x : Int) : (IntKind.u64.wrap x).tmod (k : Int) = (fx k x : Int) := by
 rw [Int.tmod_eq_emod_of_nonneg (u64_nonneg x)]
 have h := u64_nonneg x
 unfold fx
 generalize IntKind.u64.wrap x = y at *
 obtain ⟨m, rfl⟩ : ∃ m : Nat, y = m := ⟨y.toNat, by omega⟩
 simp
theorem fx_lt {k : Nat} (hk : 0 < k) (x : Int) : fx k x < k := Nat.mod_lt _ hk
theorem fx_wrap {k : Nat} (hk : 0 < k) (hk2 : k ≤ 5000) (x : Int) : wrap64 ((IntKind.u64.wrap x).tmod (k : Int)) = (fx k x : Int) := by
 rw [fx_tmod]
 have := fx_lt hk x
 exact IntWalk.wrap64_in _ (by omega)
theorem fx_one {k : Nat} (hk : 0 < k) (hk2 : k ≤ 5000) (x : Int) (c : Nat) (hc : c ≤ 100000) : wrap64 ((c : Int) + (fx k x : Int)) = ((c + fx k x : Nat) : Int) := by
 have := fx_lt hk x
 rw [IntWalk.wrap64_in _ (by omega)]
 omega
theorem fx_sum {k : Nat} (hk : 0 < k) (hk2 : k ≤ 5000) (x : Int) (c : Nat) (hc : c ≤ 100000) : wrap64 ((c : Int) + wrap64 ((IntKind.u64.wrap x).tmod (k : Int))) = ((c + fx k x : Nat) : Int) := by
 rw [fx_wrap hk hk2, fx_one hk hk2 x c hc]
theorem fx_sum' {k : Nat} (hk : 0 < k) (hk2 : k ≤ 5000) (x : Int) (c : Nat) (hc : c ≤ 100000) : IntKind.i64.wrap ((c : Int) + IntKind.i64.wrap ((IntKind.u64.wrap x).tmod (k : Int))) = ((c + fx k x : Nat) : Int) := by
 have := fx_lt hk x
 rw [fx_tmod, IntWalk.i64_in (fx k x : Int) (by omega), IntWalk.i64_in _ (by omega)]
 omega
theorem fx_mod' {k : Nat} (hk : 0 < k) (hk2 : k ≤ 5000) (x : Int) : IntKind.i64.wrap ((IntKind.u64.wrap x).tmod (k : Int)) = (fx k x : Int) := by
 have := fx_lt hk x
 rw [fx_tmod, IntWalk.i64_in _ (by omega)]
def fixRl (l : List Rl) (i : Nat) : Rl := if i < l.length then ⟨((1 + fx 4094 (l.getD i rl0).pv : Nat) : Int), ((fx 3 (l.getD i rl0).ac : Nat) : Int)⟩ else ⟨1, 0⟩
def fixRs (l : List Rl) (k : Nat) : List Rl := (List.range k).map (fixRl l)
theorem fixRs_succ (l : List Rl) (k : Nat) : rlc (fixRs l (k + 1)) = rlc (fixRs l k) ++ [.int .i64 (fixRl l k).pv, .int .i64 (fixRl l k).ac] := by
 unfold fixRs
 rw [List.range_succ, List.map_append, rlc_append]
 rfl
def vidF (l : List Vl) : Nat → Nat
 | 0 => 0
 | k + 1 => vidF l k + 1 + fx 3 (l.getD k vl0).vid
theorem vidF_le (l : List Vl) : ∀ k, vidF l k ≤ 3 * k
 | 0 => Nat.le_refl _
 | k + 1 => by
  have := vidF_le l k
  have := fx_lt (k := 3) (by omega) (l.getD k vl0).vid
  unfold vidF
  omega
theorem vid_sum (v f : Nat) (hv : v ≤ 100) (hf : f < 3) : wrap64 (wrap64 ((v : Int) + 1) + (f : Int)) = ((v + 1 + f : Nat) : Int) := by
 rw [IntWalk.wrap64_in ((v : Int) + 1) (by omega), IntWalk.wrap64_in _ (by omega)]
 omega
theorem vid_sum' (v f : Nat) (hv : v ≤ 100) (hf : f < 3) : wrap64 ((v : Int) + 1 + (f : Int)) = ((v + 1 + f : Nat) : Int) := by
 rw [IntWalk.wrap64_in _ (by omega)]
 omega
def lowB (s j : Nat) : Nat := s % 2 ^ j
theorem lowB_zero (s : Nat) : lowB s 0 = 0 := by simp [lowB, Nat.mod_one]
theorem lowB_bit (s j i : Nat) : (lowB s j).testBit i = (decide (i < j) && s.testBit i) := by
 unfold lowB
 exact Nat.testBit_mod_two_pow ..
theorem lowB_yes {s j : Nat} (h : s.testBit j = true) : lowB s j ||| 2 ^ j = lowB s (j + 1) := by
 apply Nat.eq_of_testBit_eq
 intro i
 rw [Nat.testBit_or, lowB_bit, lowB_bit, Nat.testBit_two_pow]
 by_cases e : j = i
 ·subst e; simp [h]
 ·have : decide (i < j + 1) = decide (i < j) := decide_eq_decide.mpr (by omega)
  rw [this]
  simp [e]
theorem lowB_no {s j : Nat} (h : s.testBit j = false) : lowB s j = lowB s (j + 1) := by
 apply Nat.eq_of_testBit_eq
 intro i
 rw [lowB_bit, lowB_bit]
 by_cases e : j = i
 ·subst e; simp [h]
 ·have : decide (i < j + 1) = decide (i < j) := decide_eq_decide.mpr (by omega)
  rw [this]
theorem lowB_lt (s : Nat) {j : Nat} (hj : j ≤ 64) : lowB s j < 18446744073709551616 :=
 Nat.lt_of_lt_of_le (Nat.mod_lt _ (Nat.two_pow_pos j)) (Nat.le_trans (Nat.pow_le_pow_right (by omega) hj) (by decide))
theorem lowB_all {s : Nat} (h : s < 18446744073709551616) : lowB s 64 = s := Nat.mod_eq_of_lt h
def fixVl (all : Nat) (l : List Vl) (i : Nat) : Vl := ⟨(vidF l (i + 1) : Int), all &&& (l.getD i vl0).mem, all &&& (l.getD i vl0).mem &&& (l.getD i vl0).unt⟩
def fixVs (all : Nat) (l : List Vl) (k : Nat) : List Vl := (List.range k).map (fixVl all l)
theorem fixVs_succ (all : Nat) (l : List Vl) (k : Nat) : vlc (fixVs all l (k + 1)) = vlc (fixVs all l k) ++ [.int .i64 (vidF l (k + 1) : Int), .int .u64 ((all &&& (l.getD k vl0).mem : Nat) : Int), .int .u64 ((all &&& (l.getD k vl0).mem &&& (l.getD k vl0).unt : Nat) : Int)] := by
 unfold fixVs
 rw [List.range_succ, List.map_append, vlc_append]
 rfl
theorem fixRs_getD (l : List Rl) {k i : Nat} (h : i < k) : (fixRs l k).getD i rl0 = fixRl l i := by
 unfold fixRs
 rw [List.getD_eq_getElem?_getD, List.getElem?_map, List.getElem?_range h]
 rfl
theorem fixVs_getD (all : Nat) (l : List Vl) {k i : Nat} (h : i < k) : (fixVs all l k).getD i vl0 = fixVl all l i := by
 unfold fixVs
 rw [List.getD_eq_getElem?_getD, List.getElem?_map, List.getElem?_range h]
 rfl
theorem fixR_good (l : List Rl) (i : Nat) : badR (fixRs l (i + 1)) i = false := by
 unfold badR
 rw [fixRs_getD l (by omega)]
 unfold fixRl ruleB vidB
 split
 ·have := fx_lt (k := 4094) (by omega) (l.getD i rl0).pv
  have := fx_lt (k := 3) (by omega) (l.getD i rl0).ac
  simp only [Bool.not_eq_false', Bool.and_eq_true, decide_eq_true_eq]
  omega
 ·rfl
theorem fixRs_first (l : List Rl) (P : Nat) : FirstBad (fixRs l P) P P := by
 refine ⟨Nat.le_refl _, fun i hi => ?_, fun h => absurd h (by omega)⟩
 have := fixR_good l i
 unfold badR at *
 rw [fixRs_getD l (by omega)] at this
 rw [fixRs_getD l hi]
 exact this
theorem within_and (a b : Nat) : withinB (a &&& b) a = true := by
 unfold withinB
 rw [withinK_iff]
 intro i _ h
 rw [Nat.testBit_and, Bool.and_eq_true] at h
 exact h.1
theorem fixVs_check (l : List Vl) {P k : Nat} (h2 : 2 ≤ P) (hP : P ≤ 64) (hk : k ≤ 8) : checkN (fixVs (allN P) l k) P k = 0 := by
 refine check0 (by omega) (by omega) fun i hi => ?_
 unfold wrongAt
 rw [fixVs_getD _ l hi]
 have hv := vidF_le l (i + 1)
 have h3 : vidF l (i + 1) = vidF l i + 1 + fx 3 (l.getD i vl0).vid := rfl
 rw [if_neg, if_neg, if_neg]
 ·have : withinB (fixVl (allN P) l i).unt (fixVl (allN P) l i).mem = true := within_and _ _
  rw [this]; simp
 ·have : withinB (fixVl (allN P) l i).mem (allN P) = true := within_and _ _
  rw [this]; simp
 ·rintro (h | ⟨h, h'⟩)
  ·unfold vidB fixVl at h
   simp at h
   omega
  ·rw [fixVs_getD _ l (by omega)] at h'
   have h4 : i - 1 + 1 = i := by omega
   unfold fixVl at h'
   rw [h4] at h'
   simp at h'
   omega
theorem fixVs_ok (l : List Vl) (all : Nat) (ha : all < 18446744073709551616) (k : Nat) (hk : k ≤ 8) : ∀ x ∈ fixVs all l k, x.ok := by
 intro x hx
 obtain ⟨i, hi, rfl⟩ := List.mem_map.mp hx
 have hi := List.mem_range.mp hi
 have hv := vidF_le l (i + 1)
 have h1 : all &&& (l.getD i vl0).mem < 18446744073709551616 := Nat.lt_of_le_of_lt Nat.and_le_left ha
 refine ⟨?_, h1, Nat.lt_of_le_of_lt Nat.and_le_left h1⟩
 unfold fixVl
 simp only
 omega
end
end Go.Proofs.YtpcapdpglpgcbaaGreat
