/-
  How long the bytes with a tag, or without one, are. No statement is proved here.
-/
import Derived.Test.YtkfgnbplomcjfabFrameH
import Derived.Test.YtkfgnbplomcjfabFrameI
namespace Go.Proofs.Ytkfgnbplomcjfab
open Go.RowKit

theorem outR_ok {l : List Nat} {t : Bool} {v : Int} (h : oErr l t v = 0) : outR l t v = oBytes l t v.toNat := by unfold outR; rw [if_pos h]
theorem out_tag_len {l : List Nat} (he : errN l = 0) {v : Int} (h1 : 1 ≤ v) (h2 : v ≤ 4094) : (outR l true v).length = if tagB l = true then l.length else l.length + 4 := by
  obtain ⟨h60, _, _⟩ := errN_ok he
  rw [outR_ok (oErr_tag he h1 h2)]
  unfold oBytes
  rw [padL_length]
  cases ht : tagB l
  · simp [by2]
    split <;> omega
  · simp [by2]
    split <;> omega
theorem out_plain_len {l : List Nat} (he : errN l = 0) (v : Int) (ht : tagB l = true) : (outR l false v).length = max 60 (l.length - 4) := by
  obtain ⟨h60, _, _⟩ := errN_ok he
  rw [outR_ok (oErr_plain he v)]
  unfold oBytes
  rw [padL_length, ht]
  simp
  split <;> omega
theorem out_plain_same {l : List Nat} (he : errN l = 0) (v : Int) (ht : tagB l = false) : outR l false v = l := by
  obtain ⟨h60, _, _⟩ := errN_ok he
  rw [outR_ok (oErr_plain he v)]
  unfold oBytes
  rw [ht]
  simp only [Bool.false_eq_true, if_false, List.append_nil, List.take_append_drop]
  exact padL_eq l l.length rfl h60
theorem ParsesTo.okT {l : List Nat} {w w' : World} {e : Ending} {t : Bool} (h : ParsesTo l w e w') (he : errN l = 0) (ht : tagB l = t) :
    ∃ (d s c y : Nat) (A : Option Addr) (n p : Nat), e = .returned (.tuple #[.agg #[.int .u64 d, .int .u64 s, .bool t, .int .u16 c, .int .u16 y, .slice A n p], .int .i64 0]) ∧ Below w.heap.size w w' := by
  obtain ⟨A, c, h1, _, h3⟩ := ParsesTo.ok h he
  rw [ht] at h1
  exact ⟨_, _, _, _, A, _, c, h1, h3⟩
/-- frame.Out's answer where it is good, with its count of bytes. -/
theorem frame_Out_good {l : List Nat} {t : Bool} {v : Int} {n : Nat} (hl : ∀ x ∈ l, x < 256) {s : Value} {w : World} {B K : Nat} (hK : l.length = K) (hv : Sl w B 1 s K (bv l)) (hB : B ≤ w.heap.size) (he : oErr l t v = 0) (hn : (outR l t v).length = n) :
    Calls Try.prog 12 #[s, .bool t, .int .i64 v] w fun e w' => ∃ A c, e = .returned (.tuple #[.slice A n c, .int .i64 0]) ∧ w'.ownsRow w.heap.size 5 1 (.slice A n c) n (bv (outR l t v)) ∧ Below w.heap.size w w' := by
  refine (frame_Out hl (v := s) (w := w) (B := B) (by rw [hK]; exact hv) hB t v).mono fun e w' h => ?_
  obtain ⟨A, c, h1, h2, h3⟩ := h
  rw [he, hn] at h1
  rw [hn] at h2
  exact ⟨A, c, h1, h2, h3⟩
end Go.Proofs.Ytkfgnbplomcjfab
