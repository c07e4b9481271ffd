/-
  Contracts of layer 1's functions, the program's own and the document's: each answers what a plain function of natural numbers says, and turns nothing that was there. No statement is proved here.
-/
import Derived.Test.YtcnfilbmmlolmaaProg
import Derived.Test.YtcnfilbmmlolmaaMzA
import Derived.Handy
import Derived.WalkLawsBesides
import Derived.Lib.Hide
import Derived.Laws.BitsAllLaws
import Derived.Deep.QuietTactic
import Derived.BigQuiet
namespace Go.Proofs.Ytcnfilbmmlolmaa
open Go.RowKit

theorem byte_lt {l : List Nat} (h : ∀ x ∈ l, x < 256) (k : Nat) : l.getD k 0 < 256 := by
  rw [List.getD_eq_getElem?_getD]
  rcases Nat.lt_or_ge k l.length with hk | hk
  · rw [List.getElem?_eq_getElem hk]; exact h _ (List.getElem_mem hk)
  · rw [List.getElem?_eq_none hk]; simp
theorem ofk_lt {l : List Nat} (h : ∀ x ∈ l, x < 256) (k : Nat) : ofk l k < 256 ^ k := by
  induction k with
  | zero => simp [ofk]
  | succ k ih =>
    have := byte_lt h k
    rw [ofk, Nat.pow_succ]
    omega
theorem ofk_small {l : List Nat} (h : ∀ x ∈ l, x < 256) {k : Nat} (hk : k ≤ 6) : ofk l k < 281474976710656 :=
  Nat.lt_of_lt_of_le (ofk_lt h k) (by
    have : 256 ^ k ≤ 256 ^ 6 := Nat.pow_le_pow_right (by omega) hk
    simpa using this)
theorem cell_bv {w : World} {b off : Nat} {l : List Nat} (h : ∀ j, j < l.length * 1 → w.cell? ⟨b, off + j, none⟩ = (bv l)[j]?) {k : Nat} (hk : k < l.length) : w.cell? ⟨b, off + k, none⟩ = some (.int .u8 ((l.getD k 0 : Nat) : Int)) := by
  rw [h k (by omega), bv_at l k hk]
  simp [List.getD_eq_getElem?_getD, List.getElem?_eq_getElem hk]

/-- The same bytes? -/
def sameB (l m : List Nat) : Bool := decide (l = m)
theorem sameB_yes {l m : List Nat} (h : l = m) : sameB l m = true := by simp [sameB, h]
theorem sameB_no {l m : List Nat} (h : l ≠ m) : sameB l m = false := by simp [sameB, h]
theorem take_step {l m : List Nat} {k : Nat} (h : l.take k = m.take k) (hk : k < l.length) (hk' : k < m.length) (hx : l.getD k 0 = m.getD k 0) : l.take (k + 1) = m.take (k + 1) := by
  rw [List.take_succ_eq_append_getElem hk, List.take_succ_eq_append_getElem hk', h]
  simp [List.getD_eq_getElem?_getD, List.getElem?_eq_getElem hk, List.getElem?_eq_getElem hk'] at hx
  rw [hx]

set_option maxHeartbeats 400000 in
theorem mac_Right (m : Nat) (hm : m < 18446744073709551616) (w : World) :
    Calls Try.prog 123 #[.int .u64 (m : Int)] w fun e w' => e = .returned (.bool (decide (m < 281474976710656))) ∧ w = w' := by
  go_enter Try.func123, Try.ntmps123
  go_wp2
  go_ret
  exact ⟨ret_bool (by rw [decide_eq_decide]; omega), rfl⟩
set_option maxHeartbeats 400000 in
theorem mac_Kind (m : Nat) (hm : m < 18446744073709551616) (w : World) :
    Calls Try.prog 124 #[.int .u64 (m : Int)] w fun e w' => e = .returned (.int .i64 (kindN m : Nat)) ∧ w = w' := by
  have h1 : bits .and .u64 (m : Int) 281474976710655 = ((m % 281474976710656 : Nat) : Int) := by
    have := u64_and_nat m 281474976710655 hm (by omega)
    rw [and_low] at this
    exact this
  have hk : kindN m = if m % 281474976710656 = 281474976710655 then 2 else if m % 281474976710656 / 16 * 16 = 1652522221568 then 3 else m % 281474976710656 / 1099511627776 % 2 := by
    unfold kindN
    split
    · rfl
    · split
      · rfl
      · omega
  obtain ⟨L, hL⟩ : ∃ L, L = m % 281474976710656 := ⟨_, rfl⟩
  have hLb : L < 281474976710656 := by omega
  rw [← hL] at h1 hk
  have HK := Lib.hid hk
  clear hk hL
  have h2 : bits .andNot .u64 (L : Int) 15 = ((L / 16 * 16 : Nat) : Int) := by
    have := u64_andNot_nat L 15 (by omega) (by omega)
    rw [andNot_15 L (by omega)] at this
    exact this
  have h3 : bits .and .u64 (L : Int) 1099511627776 = ((L / 1099511627776 % 2 * 1099511627776 : Nat) : Int) := by
    have := u64_and_nat L 1099511627776 (by omega) (by omega)
    rw [and_40] at this
    exact this
  go_enter Try.func124, Try.ntmps124
  go_wp2
  all_goals go_ret
  all_goals refine ⟨ret_i64 ?_, rfl⟩
  all_goals rw [HK.out]
  all_goals simp only [beq_iff_eq, beq_eq_false_iff_ne, bne_iff_ne, bne_eq_false_iff_eq, ne_eq] at *
  · rw [if_pos (by omega)]; rfl
  · rw [if_neg (by omega), if_pos (by omega)]; rfl
  · rw [if_neg (by omega), if_neg (by omega)]; omega
  · rw [if_neg (by omega), if_neg (by omega)]; omega

/-- The call made a row of its own, that reads so, and turned nothing that was there. -/
def Made (e : TypeId) (size n : Nat) (xs : List Value) (w : World) (en : Ending) (w' : World) : Prop :=
  ∃ v, en = .returned v ∧ w'.ownsRow w.heap.size e size v n xs ∧ Below w.heap.size w w'
/-- The six cells of an address's bytes. -/
theorem six {w : World} {B : Nat} {v : Value} {m : Nat} {e : TypeId} (h : w.ownsRow B e 1 v 6 (bv (mb m))) : ∃ g cap, v = .slice (some ⟨g, 0, none⟩) 6 cap ∧ B ≤ g ∧ g < w.heap.size ∧ 6 ≤ cap ∧
    w.cell? ⟨g, 0, none⟩ = some (.int .u8 (m / 1099511627776 % 256 : Nat)) ∧ w.cell? ⟨g, 1, none⟩ = some (.int .u8 (m / 4294967296 % 256 : Nat)) ∧ w.cell? ⟨g, 2, none⟩ = some (.int .u8 (m / 16777216 % 256 : Nat)) ∧
    w.cell? ⟨g, 3, none⟩ = some (.int .u8 (m / 65536 % 256 : Nat)) ∧ w.cell? ⟨g, 4, none⟩ = some (.int .u8 (m / 256 % 256 : Nat)) ∧ w.cell? ⟨g, 5, none⟩ = some (.int .u8 (m % 256 : Nat)) := by
  rcases h.2 with ⟨_, h0⟩ | ⟨g, cap, cur, rfl, hb, hg, hc, _⟩
  · omega
  · refine ⟨g, cap, rfl, hb, (Array.getElem?_eq_some_iff.1 hg).1, hc, ?_, ?_, ?_, ?_, ?_, ?_⟩ <;> (rw [h.cellAt _ (by omega)]; simp [bv, mb])

theorem ofk_take {l : List Nat} {n k : Nat} (hn : k ≤ n) : ofk (l.take n) k = ofk l k := by
  induction k with
  | zero => rfl
  | succ k ih =>
    rw [ofk, ofk, ih (by omega)]
    simp [List.getD_eq_getElem?_getD, show k < n by omega]
theorem mb_ofk {l : List Nat} (h6 : 6 ≤ l.length) (hl : ∀ x ∈ l, x < 256) : mb (ofk l 6) = l.take 6 := by
  match l, h6 with
  | a :: b :: c :: d :: e :: f :: r, _ =>
    have ha := hl a (by simp)
    have hb := hl b (by simp)
    have hc := hl c (by simp)
    have hd := hl d (by simp)
    have he := hl e (by simp)
    have hf := hl f (by simp)
    simp [mb, ofk]
    omega
end Go.Proofs.Ytcnfilbmmlolmaa
