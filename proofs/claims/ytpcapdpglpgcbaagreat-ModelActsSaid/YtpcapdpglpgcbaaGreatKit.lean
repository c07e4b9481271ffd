/-
  Words and contracts that a statement's proof rests on (Plain, PlainVlan, PlainVl, PlainVlanB, Kit, PlainFrame). No statement is proved here.
-/
import Derived.Laws.BitsAllLaws
import Derived.Below
import Derived.Test.YtpcapdpglpgcbaaGreatProg
import Derived.Handy
import Derived.WalkLawsBesides
import Derived.Lib.Hide
import Derived.Deep.QuietTactic
import Derived.BigQuiet
import Derived.Deep.RegionHeld
import Derived.Test.YtpcapdpglpgcbaaGreatBase
set_option linter.unusedVariables false
set_option linter.unusedSimpArgs false
namespace Go.Proofs.YtpcapdpglpgcbaaGreat
section
theorem and_low (m : Nat) : m &&& 281474976710655 = m % 281474976710656 := by
 have := Nat.and_two_pow_sub_one_eq_mod m 48
 simpa using this
theorem andNot_15 (a : Nat) (ha : a < 18446744073709551616) : a &&& (18446744073709551615 - 15) = a / 16 * 16 := by
 have e1 : (18446744073709551615 - 15 : Nat) = (2 ^ 60 - 1) <<< 4 := by decide
 have e2 : a / 16 * 16 = (a >>> 4) <<< 4 := by rw [Nat.shiftLeft_eq, Nat.shiftRight_eq_div_pow]
 rw [e1, e2]
 apply Nat.eq_of_testBit_eq
 intro i
 simp only [Nat.testBit_and, Nat.testBit_shiftLeft, Nat.testBit_shiftRight, Nat.testBit_two_pow_sub_one]
 by_cases h4 : i ≥ 4
 ·by_cases h64 : i < 64
  ·have : i - 4 < 60 := by omega
   have e : 4 + (i - 4) = i := by omega
   simp [h4, this, e]
  ·have : a.testBit i = false := Nat.testBit_lt_two_pow (Nat.lt_of_lt_of_le ha (by
    have : 2 ^ 64 ≤ 2 ^ i := Nat.pow_le_pow_right (by omega) (by omega)
    simpa using this))
   have e : 4 + (i - 4) = i := by omega
   simp [h4, this, e]
 ·simp [h4]
theorem and_bit (a k : Nat) : a &&& 2 ^ k = (a / 2 ^ k % 2) * 2 ^ k := by
 have hc : a.testBit k = decide (a / 2 ^ k % 2 = 1) := Nat.testBit_eq_decide_div_mod_eq ..
 have h2 : a / 2 ^ k % 2 = 0 ∨ a / 2 ^ k % 2 = 1 := by omega
 apply Nat.eq_of_testBit_eq
 intro i
 rw [Nat.testBit_and, Nat.testBit_two_pow]
 by_cases hi : k = i
 ·subst hi
  rcases h2 with h | h <;> simp [hc, h]
 ·rcases h2 with h | h <;> simp [h, hi]
theorem and_40 (a : Nat) : a &&& 1099511627776 = (a / 1099511627776 % 2) * 1099511627776 := by
 have := and_bit a 40
 simpa using this
def mb (m : Nat) : List Nat := [m / 1099511627776 % 256, m / 4294967296 % 256, m / 16777216 % 256, m / 65536 % 256, m / 256 % 256, m % 256]
def lastk (m : Nat) : Nat → List Nat
 | 0 => []
 | k + 1 => (m / 256 ^ k % 256) :: lastk m k
theorem lastk_six (m : Nat) : lastk m 6 = mb m := by simp [lastk, mb]
def kindN (m : Nat) : Nat :=
 if m % 281474976710656 = 281474976710655 then 2 else if m % 281474976710656 / 16 * 16 = 1652522221568 then 3 else m / 1099511627776 % 2
theorem reserved_iff (m : Nat) : m % 281474976710656 / 16 * 16 = 1652522221568 ↔
  (m / 1099511627776 % 256 = 1 ∧ m / 4294967296 % 256 = 128 ∧ m / 16777216 % 256 = 194 ∧ m / 65536 % 256 = 0 ∧ m / 256 % 256 = 0 ∧ m % 256 < 16) := by
 omega
def sl (s : ByteArray) : List Nat := s.data.toList.map (·.toNat)
end
section
theorem bit_lt {p : Nat} (hp : p < 64) : 2 ^ p < 18446744073709551616 := Nat.lt_of_lt_of_eq (Nat.pow_lt_pow_right (by omega) hp) (by decide)
theorem and_one (s k : Nat) : s &&& 2 ^ k = if s.testBit k = true then 2 ^ k else 0 := by
 apply Nat.eq_of_testBit_eq
 intro i
 rw [Nat.testBit_and, Nat.testBit_two_pow]
 split
 ·rename_i h
  rw [Nat.testBit_two_pow]
  by_cases hk : k = i
  ·subst hk; simp [h]
  ·simp [hk]
 ·rename_i h
  by_cases hk : k = i
  ·subst hk; simp [h]
  ·simp [hk]
theorem or_bit_same {s k : Nat} (h : s.testBit k = true) : s ||| 2 ^ k = s := by
 apply Nat.eq_of_testBit_eq
 intro i
 rw [Nat.testBit_or, Nat.testBit_two_pow]
 by_cases hk : k = i
 ·subst hk; simp [h]
 ·simp [hk]
theorem or_bit_add {s k : Nat} (hs : s < 18446744073709551616) (hk : k < 64) (h : s.testBit k = false) : s ||| 2 ^ k = s + 2 ^ k := by
 have h1 := bit_lt hk
 have hx : (BitVec.ofNat 65 s).toNat = s := by rw [BitVec.toNat_ofNat]; exact Nat.mod_eq_of_lt (by omega)
 have hy : (BitVec.ofNat 65 (2 ^ k)).toNat = 2 ^ k := by rw [BitVec.toNat_ofNat]; exact Nat.mod_eq_of_lt (by omega)
 have h0 : BitVec.ofNat 65 s &&& BitVec.ofNat 65 (2 ^ k) = 0#65 := by
  apply BitVec.eq_of_toNat_eq
  rw [BitVec.toNat_and, hx, hy, and_one, h]
  rfl
 have := congrArg BitVec.toNat (BitVec.add_eq_or_of_and_eq_zero _ _ h0)
 rw [BitVec.toNat_add, BitVec.toNat_or, hx, hy, Nat.mod_eq_of_lt (by omega)] at this
 exact this.symm
def hasB (s : Nat) (p : Int) : Bool := decide (0 ≤ p ∧ p < 64) && s.testBit p.toNat
def withN (s : Nat) (p : Int) : Nat := if 0 ≤ p ∧ p < 64 then s ||| 2 ^ p.toNat else s
theorem hasB_out (s : Nat) {p : Int} (hp : p < 0 ∨ 64 ≤ p) : hasB s p = false := by
 unfold hasB
 rw [decide_eq_false (by omega)]; rfl
theorem hasB_in (s : Nat) {k : Nat} (hk : k < 64) : hasB s (k : Int) = s.testBit k := by
 unfold hasB
 rw [decide_eq_true (by omega), Int.toNat_natCast]; rfl
theorem has_and (s k : Nat) : (((s &&& 2 ^ k : Nat) : Int) != 0) = s.testBit k := by
 rw [and_one]
 have : 0 < 2 ^ k := Nat.two_pow_pos k
 generalize 2 ^ k = y at *
 cases h : s.testBit k
 ·simp
 ·simp
  omega
theorem withN_out (s : Nat) {p : Int} (hp : p < 0 ∨ 64 ≤ p) : withN s p = s := by unfold withN; rw [if_neg (by omega)]
theorem withN_in (s : Nat) {k : Nat} (hk : k < 64) : withN s (k : Int) = s ||| 2 ^ k := by unfold withN; rw [if_pos (by omega), Int.toNat_natCast]
theorem withN_lt {s : Nat} (hs : s < 18446744073709551616) (p : Int) : withN s p < 18446744073709551616 := by
 unfold withN
 split
 ·exact Nat.or_lt_two_pow (n := 64) hs (bit_lt (by omega))
 ·exact hs
end
section
open Go.RowKit
structure Vl where
 vid : Int
 mem : Nat
 unt : Nat
def vl0 : Vl := ⟨0, 0, 0⟩
def Vl.ok (x : Vl) : Prop := (-9223372036854775808 ≤ x.vid ∧ x.vid ≤ 9223372036854775807) ∧ x.mem < 18446744073709551616 ∧ x.unt < 18446744073709551616
def Vl.cells (x : Vl) : List Value := [.int .i64 x.vid, .int .u64 (x.mem : Nat), .int .u64 (x.unt : Nat)]
def vlc : List Vl → List Value
 | [] => []
 | x :: l => x.cells ++ vlc l
theorem vlc_length : ∀ l : List Vl, (vlc l).length = l.length * 3
 | [] => rfl
 | x :: l => by
  have := vlc_length l
  simp [vlc, Vl.cells, this]
  omega
theorem vlc_append : ∀ a b : List Vl, vlc (a ++ b) = vlc a ++ vlc b
 | [], b => rfl
 | x :: a, b => by simp [vlc, vlc_append a b]
theorem vlc_at : ∀ (l : List Vl) (j f : Nat), f < 3 → (vlc l)[j * 3 + f]? = (l[j]?).bind fun x => x.cells[f]?
 | [], j, f, _ => by simp [vlc]
 | x :: l, 0, f, h => by
  rw [vlc, List.getElem?_append_left (by simp [Vl.cells]; omega)]
  simp
 | x :: l, j + 1, f, h => by
  have := vlc_at l j f h
  rw [vlc, List.getElem?_append_right (by simp [Vl.cells]; omega)]
  have e : (j + 1) * 3 + f - x.cells.length = j * 3 + f := by simp [Vl.cells]; omega
  rw [e, this]
  simp
theorem vlc_one (l : List Vl) : ∀ u ∈ vlc l, u.oneCell' = true := by
 induction l with
 | nil => simp [vlc]
 | cons x l ih =>
  intro u hu
  rw [vlc, List.mem_append] at hu
  rcases hu with h | h
  ·simp [Vl.cells] at h
   rcases h with rfl | rfl | rfl <;> rfl
  ·exact ih u h
theorem vl_ok {l : List Vl} (h : ∀ x ∈ l, x.ok) (k : Nat) : (l.getD k vl0).ok := by
 rw [List.getD_eq_getElem?_getD]
 rcases Nat.lt_or_ge k l.length with hk | hk
 ·rw [List.getElem?_eq_getElem hk]; exact h _ (List.getElem_mem hk)
 ·rw [List.getElem?_eq_none hk]
  simp [Vl.ok, vl0]
theorem Sl.vlAt {w : World} {B n : Nat} {v : Value} {l : List Vl} (h : Sl w B 3 v n (vlc l)) (hn : 0 < n) :
  ∃ b off cap, v = .slice (some ⟨b, off, none⟩) n cap ∧ n ≤ cap ∧ cap ≤ maxLen ∧ b < B ∧ l.length = n ∧
   ∀ j, j < n → w.cell? ⟨b, off + j * 3, none⟩ = some (.int .i64 (l.getD j vl0).vid) ∧ w.cell? ⟨b, off + j * 3 + 1, none⟩ = some (.int .u64 ((l.getD j vl0).mem : Nat)) ∧ w.cell? ⟨b, off + j * 3 + 2, none⟩ = some (.int .u64 ((l.getD j vl0).unt : Nat)) := by
 have hl := h.len
 rw [vlc_length] at hl
 obtain ⟨b, off, cap, rfl, h1, h2, h3, h4⟩ := h.at_ hn
 refine ⟨b, off, cap, rfl, h1, h2, h3, by omega, fun j hj => ?_⟩
 have hjl : j < l.length := by omega
 have a0 := h4 (j * 3 + 0) (by omega)
 have a1 := h4 (j * 3 + 1) (by omega)
 have a2 := h4 (j * 3 + 2) (by omega)
 rw [vlc_at l j _ (by omega), List.getElem?_eq_getElem hjl] at a0 a1 a2
 simp only [List.getD_eq_getElem?_getD, List.getElem?_eq_getElem hjl, Option.getD_some]
 exact ⟨a0, a1, a2⟩
theorem Sl.vlLen {w : World} {B n : Nat} {v : Value} {l : List Vl} (h : Sl w B 3 v n (vlc l)) : l.length = n := by
 have hl := h.len
 rw [vlc_length] at hl
 omega
def firstI (f : Nat → Bool) : Nat → Int
 | 0 => -1
 | k + 1 => if 0 ≤ firstI f k then firstI f k else if f k = true then (k : Int) else -1
theorem firstI_none (f : Nat → Bool) : ∀ k, (∀ i, i < k → f i = false) → firstI f k = -1
 | 0, _ => rfl
 | k + 1, h => by
  rw [firstI, firstI_none f k fun i hi => h i (by omega), if_neg (by omega), h k (by omega)]
  rfl
theorem firstI_at (f : Nat → Bool) (k : Nat) (h : ∀ i, i < k → f i = false) (hk : f k = true) : ∀ n, k < n → firstI f n = (k : Int)
 | 0, h0 => by omega
 | n + 1, h0 => by
  rw [firstI]
  rcases Nat.lt_or_ge k n with h1 | h1
  ·rw [firstI_at f k h hk n h1, if_pos (by omega)]
  ·obtain rfl : k = n := by omega
   rw [firstI_none f k h, if_neg (by omega), if_pos hk]
theorem firstI_bd (f : Nat → Bool) : ∀ k, -1 ≤ firstI f k ∧ firstI f k < k
 | 0 => by simp [firstI]
 | k + 1 => by
  have := firstI_bd f k
  rw [firstI]
  split
  ·omega
  ·split <;> omega
def vidAt (l : List Vl) (vid : Int) (i : Nat) : Bool := (l.getD i vl0).vid == vid
def findN (l : List Vl) (vid : Int) (n : Nat) : Int := firstI (vidAt l vid) n
end
section

end
section
open Go.RowKit
theorem ret_u64 {a b : Int} (h : a = b) : Ending.returned (.int .u64 a) = .returned (.int .u64 b) := by rw [h]
theorem ret_i64 {a b : Int} (h : a = b) : Ending.returned (.int .i64 a) = .returned (.int .i64 b) := by rw [h]
theorem ret_bool {a b : Bool} (h : a = b) : Ending.returned (.bool a) = .returned (.bool b) := by rw [h]
def Quiet (v : Value) (w : World) (e : Ending) (w' : World) : Prop := e = .returned v ∧ ∃ n, w' = w.drewN n
def Says (v : Value) (w : World) (e : Ending) (w' : World) : Prop := e = .returned v ∧ Below w.heap.size w w'
theorem below_drewN {B : Nat} {a w : World} (h : Below B a w) (n : Nat) : Below B a (w.drewN n) := ⟨h.os, h.tape, h.output, h.size, h.block⟩
theorem bcell {W w1 : World} {B : Nat} (hb : Below B W w1) : (∀ b o, b < B → w1.cell? ⟨b, o, none⟩ = W.cell? ⟨b, o, none⟩) ∧ (∀ b o, b < B → w1.frozen? ⟨b, o, none⟩ = W.frozen? ⟨b, o, none⟩) :=
 ⟨fun b o h => hb.cell (p := ⟨b, o, none⟩) h, fun b o h => hb.frozen (p := ⟨b, o, none⟩) h⟩
theorem sqA {α : Type} {l : List α} {i : Nat} {a : α} : l.toArray.setIfInBounds i a = (l.set i a).toArray := List.setIfInBounds_toArray ..
theorem sqB {α : Type} {x a : α} {l : List α} : (x :: l).set 0 a = a :: l := List.set_cons_zero
theorem sqC {α : Type} {x a : α} {l : List α} {i : Nat} : (x :: l).set (i + 1) a = x :: l.set i a := List.set_cons_succ
section
variable {P : Program} {md : Region.Mode} {ops : Array Oper} {Q : Exit → Act → World → Prop} {S : World → Prop} {fuel : Nat} {listed : Array Bool} {a : Act} {w : World} {d : Option Tmp} {o : Op} {t : TypeId} {p : String} {f : Array Edge} {g : Option (Nat × Bool)} {v : Value}
theorem tkR {listed' : Array Bool} {a' : Act} (i : Nat) (hi : ops[i]? = some ⟨d, o, t, p, f, g⟩) (h : wpAnyH P md ops Q S fuel listed' a' w) (hv : ∀ w, S w → (execOp a.eval ⟨d, o, t, p, f, g⟩).run P w = .ok (.value v) w := by (intro w hSw; (try dsimp only at hSw); go_simp; try with_reducible rfl)) (ha : a.put d v = a' := by ((try simp only [Act.put, sqA, sqB, sqC]); with_reducible rfl)) (hl : listed.setIfInBounds i true = listed' := by ((try simp only [sqA, sqB, sqC]); with_reducible rfl)) (hw : Region.wanted ⟨d, o, t, p, f, g⟩ (yielded ops a.tmps) = true := by rfl) (hs : Region.noSelect ops = true := by kernel_rfl) (hf : Region.free md ops listed i = true := by kernel_rfl) (hr : (Region.ready md ops listed).contains i = true := by kernel_rfl) (hQ : ∀ c a w, Q (.panic c) (a.put d v) w → Q (.panic c) a w := by exact fun _ _ _ h => h) (hS : S w := by assumption) : wpAnyH P md ops Q S (fuel + 1) listed a w := by
 subst ha
 subst hl
 exact wpAnyH_take hi hs hf hr hQ (Or.inl ⟨hw, hv⟩) hS h
theorem skR {listed' : Array Bool} {a' : Act} (i : Nat) (hi : ops[i]? = some ⟨d, o, t, p, f, g⟩) (h : wpAnyH P md ops Q S fuel listed' a' w) (ha : a.put d undef = a' := by ((try simp only [Act.put, sqA, sqB, sqC]); with_reducible rfl)) (hl : listed.setIfInBounds i true = listed' := by ((try simp only [sqA, sqB, sqC]); with_reducible rfl)) (hw : Region.wanted ⟨d, o, t, p, f, g⟩ (yielded ops a.tmps) = false := by rfl) (hs : Region.noSelect ops = true := by kernel_rfl) (hf : Region.free md ops listed i = true := by kernel_rfl) (hr : (Region.ready md ops listed).contains i = true := by kernel_rfl) (hQ : ∀ c a w, Q (.panic c) (a.put d undef) w → Q (.panic c) a w := by exact fun _ _ _ h => h) (hS : S w := by assumption) : wpAnyH P md ops Q S (fuel + 1) listed a w := by
 subst ha
 subst hl
 exact wpAnyH_take hi hs hf hr hQ (Or.inr ⟨hw, rfl⟩) hS h
theorem clR (i : Nat) (hi : ops[i]? = some ⟨d, o, t, p, f, g⟩)
  (h : ∀ K' : Act → World → Prop, Shut (∀ a w, S w → (S w → wpAnyH P md ops Q S fuel (listed.setIfInBounds i true) a w) → K' a w) → if Region.wanted ⟨d, o, t, p, f, g⟩ (yielded ops a.tmps) = true then Oper.wp P ⟨d, o, t, p, f, g⟩ a w K' Q else K' (a.put d undef) w) (hr : Region.ready md ops listed = [i] := by kernel_rfl) : wpAnyH P md ops Q S (fuel + 1) listed a w :=
 wpAnyH_ready hr (List.cons_ne_nil _ _) (AllReadyH.cons hi h AllReadyH.nil)
theorem acR {i : Nat} {rs : List Nat} (hi : ops[i]? = some ⟨d, o, t, p, f, g⟩)
  (h : ∀ K' : Act → World → Prop, Shut (∀ a w, S w → (S w → wpAnyH P md ops Q S fuel (listed.setIfInBounds i true) a w) → K' a w) → if Region.wanted ⟨d, o, t, p, f, g⟩ (yielded ops a.tmps) = true then Oper.wp P ⟨d, o, t, p, f, g⟩ a w K' Q else K' (a.put d undef) w) (hs : AllReadyH P md ops Q S fuel listed a w rs) : AllReadyH P md ops Q S fuel listed a w (i :: rs) := AllReadyH.cons hi h hs
end
theorem box14 {w w0 : World} {T : TypeId} {v0 v1 v2 v3 v4 v5 v6 v7 v8 v9 v10 v11 v12 v13 : Value} (h : w0 = w.alloc (.cells #[v0, v1, v2, v3, v4, v5, v6, v7, v8, v9, v10, v11, v12, v13] T)) : ∀ w', Below w0.heap.size w0 w' → w'.cell? ⟨w.heap.size, 0, none⟩ = some v0 ∧ w'.cell? ⟨w.heap.size, 1, none⟩ = some v1 ∧ w'.cell? ⟨w.heap.size, 2, none⟩ = some v2 ∧ w'.cell? ⟨w.heap.size, 3, none⟩ = some v3 ∧ w'.cell? ⟨w.heap.size, 4, none⟩ = some v4 ∧ w'.cell? ⟨w.heap.size, 5, none⟩ = some v5 ∧ w'.cell? ⟨w.heap.size, 6, none⟩ = some v6 ∧ w'.cell? ⟨w.heap.size, 7, none⟩ = some v7 ∧ w'.cell? ⟨w.heap.size, 8, none⟩ = some v8 ∧ w'.cell? ⟨w.heap.size, 9, none⟩ = some v9 ∧ w'.cell? ⟨w.heap.size, 10, none⟩ = some v10 ∧ w'.cell? ⟨w.heap.size, 11, none⟩ = some v11 ∧ w'.cell? ⟨w.heap.size, 12, none⟩ = some v12 ∧ w'.cell? ⟨w.heap.size, 13, none⟩ = some v13 := fun w' hb => by
 rw [h] at hb
 refine ⟨?_, ?_, ?_, ?_, ?_, ?_, ?_, ?_, ?_, ?_, ?_, ?_, ?_, ?_⟩ <;>
 ·rw [hb.cell (by show w.heap.size < _; simp)]
  simp [go_sem]
theorem box14b (w : World) (T : TypeId) (v0 v1 v2 v3 v4 v5 v6 v7 v8 v9 v10 v11 v12 v13 : Value) : ∀ w', Below (w.heap.size + 1) (w.alloc (.cells #[v0, v1, v2, v3, v4, v5, v6, v7, v8, v9, v10, v11, v12, v13] T)) w' → w'.cell? ⟨w.heap.size, 0, none⟩ = some v0 ∧ w'.cell? ⟨w.heap.size, 1, none⟩ = some v1 ∧ w'.cell? ⟨w.heap.size, 2, none⟩ = some v2 ∧ w'.cell? ⟨w.heap.size, 3, none⟩ = some v3 ∧ w'.cell? ⟨w.heap.size, 4, none⟩ = some v4 ∧ w'.cell? ⟨w.heap.size, 5, none⟩ = some v5 ∧ w'.cell? ⟨w.heap.size, 6, none⟩ = some v6 ∧ w'.cell? ⟨w.heap.size, 7, none⟩ = some v7 ∧ w'.cell? ⟨w.heap.size, 8, none⟩ = some v8 ∧ w'.cell? ⟨w.heap.size, 9, none⟩ = some v9 ∧ w'.cell? ⟨w.heap.size, 10, none⟩ = some v10 ∧ w'.cell? ⟨w.heap.size, 11, none⟩ = some v11 ∧ w'.cell? ⟨w.heap.size, 12, none⟩ = some v12 ∧ w'.cell? ⟨w.heap.size, 13, none⟩ = some v13 := fun w' hb => by
 refine ⟨?_, ?_, ?_, ?_, ?_, ?_, ?_, ?_, ?_, ?_, ?_, ?_, ?_, ?_⟩ <;>
 ·rw [hb.cell (by show w.heap.size < _; omega)]
  simp [go_sem]
theorem low14 {w : World} {o : Obj} {C : World → Prop} (_ : ∀ w', Below (w.heap.size + 1) (w.alloc o) w' → C w') : ∀ w', Below (w.heap.size + 1) (w.alloc o) w' → Below w.heap.size w w' := fun w' hb => ((Below.refl w.heap.size w).alloc (Nat.le_refl _) _).trans (hb.mono (by omega))
theorem up14 {w : World} {o : Obj} {C : World → Prop} (_ : ∀ w', Below (w.heap.size + 1) (w.alloc o) w' → C w') : ∀ w' w'', Below (w.heap.size + 1) (w.alloc o) w' → Below w'.heap.size w' w'' → Below (w.heap.size + 1) (w.alloc o) w'' := fun w' w'' h1 h2 => h1.trans (h2.mono (by have := h1.size; simp at this; omega))
theorem self14 {w : World} {o : Obj} {C : World → Prop} (_ : ∀ w', Below (w.heap.size + 1) (w.alloc o) w' → C w') : Below (w.heap.size + 1) (w.alloc o) (w.alloc o) := Below.refl _ _
end
section
structure Fr where
 dst : Nat
 src : Nat
 tagged : Bool
 tci : Nat
 typ : Nat
 load : List Nat
def Fr.zero : Fr := ⟨0, 0, false, 0, 0, []⟩
end
end Go.Proofs.YtpcapdpglpgcbaaGreat
