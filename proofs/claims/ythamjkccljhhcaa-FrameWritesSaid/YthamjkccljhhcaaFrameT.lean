/-
  The second law's own look: a frame of noughts is told, and one with a tag. No statement is proved here.
-/
import Derived.Test.YthamjkccljhhcaaFrameH
import Derived.Test.YthamjkccljhhcaaFrameI
import Derived.Test.YthamjkccljhhcaaBase2
namespace Go.Proofs.Ythamjkccljhhcaa
open Go.RowKit

def z60 : List Nat := List.replicate 60 0
theorem z60_lt : ∀ x ∈ z60, x < 256 := by
  intro x hx
  have := List.eq_of_mem_replicate hx
  omega
theorem z60_err : errN z60 = 0 := by decide
theorem z60_out : outR z60 true 5 = [0, 0, 0, 0, 0, 0, 0, 0, 0, 0, 0, 0, 129, 0, 0, 5] ++ List.replicate 48 0 := by decide
theorem z60_oerr : oErr z60 true 5 = 0 := by decide
theorem z59_err : errN (z60.drop 1) = 2 := by decide
/-- A block of bytes, kept closed to the walk. -/
def byteBlock (l : List Nat) : Array Value := (bv l).toArray

theorem z60_len : z60.length = 60 := by decide
theorem z59_len : (z60.drop 1).length = 59 := by decide
theorem zhead : z60.length - headN z60 = 46 := by decide

/-- The frame of noughts is parsed: a load of 46. -/
theorem told_parse60 {v : Value} {w : World} {B : Nat} (hv : Sl w B 1 v 60 (bv z60)) (hB : B ≤ w.heap.size) :
    Calls Try.prog 15 #[v] w fun e w' => ∃ (d s : Nat) (t : Bool) (c y : Nat) (A : Option Addr) (p : Nat), e = .returned (.tuple #[.agg #[.int .u64 d, .int .u64 s, .bool t, .int .u16 c, .int .u16 y, .slice A 46 p], .int .i64 0]) ∧ Below w.heap.size w w' := by
  refine (frame_Parse z60_lt (v := v) (w := w) (B := B) (by rw [z60_len]; exact hv) hB).mono fun e w' h => ?_
  obtain ⟨A, c, he, _, hb⟩ := ParsesTo.ok h z60_err
  rw [zhead] at he
  exact ⟨_, _, _, _, _, A, c, he, hb⟩
theorem told_parse59 {v : Value} {w : World} {B : Nat} (hv : Sl w B 1 v 59 (bv (z60.drop 1))) (hB : B ≤ w.heap.size) :
    Calls Try.prog 15 #[v] w fun e w' => ∃ A c, e = .returned (.tuple #[.agg #[.int .u64 0, .int .u64 0, .bool false, .int .u16 0, .int .u16 0, .slice A 0 c], .int .i64 2]) ∧ Below w.heap.size w w' := by
  refine (frame_Parse (mem_drop z60_lt 1) (v := v) (w := w) (B := B) (by rw [z59_len]; exact hv) hB).mono fun e w' h => ?_
  obtain ⟨A, c, he, _, hb⟩ := ParsesTo.err h (by rw [z59_err]; omega)
  rw [z59_err] at he
  exact ⟨A, c, he, hb⟩
theorem told_out {v : Value} {w : World} {B : Nat} (hv : Sl w B 1 v 60 (bv z60)) (hB : B ≤ w.heap.size) :
    Calls Try.prog 26 #[v, .bool true, .int .i64 5] w fun e w' => ∃ g p, e = .returned (.tuple #[.slice (some ⟨g, 0, none⟩) 64 p, .int .i64 0]) ∧ 64 ≤ p ∧ p ≤ maxLen ∧ w.heap.size ≤ g ∧ g < w'.heap.size ∧ w'.cell? ⟨g, 12, none⟩ = some (.int .u8 129) ∧ w'.cell? ⟨g, 15, none⟩ = some (.int .u8 5) ∧ Below w.heap.size w w' := by
  refine (frame_Out z60_lt (v := v) (w := w) (B := B) (by rw [z60_len]; exact hv) hB true 5).mono fun e w' h => ?_
  obtain ⟨A, cap, he, ho, hb⟩ := h
  have hn : (outR z60 true 5).length = 64 := by decide
  have hr := z60_out
  generalize outR z60 true 5 = r at *
  rw [z60_oerr, hn] at he
  rw [hn, hr] at ho
  rcases ho.2 with ⟨h1, h0⟩ | ⟨g, cap', cur, hv', hg0, hg, hnc, hcm, _, _⟩
  · exact absurd (Value.slice.inj h1).2.1 (by omega)
  · obtain ⟨rfl, _, rfl⟩ := Value.slice.inj hv'
    refine ⟨g, cap, he, hnc, hcm, hg0, (Array.getElem?_eq_some_iff.1 hg).1, ?_, ?_, hb⟩
    · have := ho.cellAt 12 (by omega)
      simpa [bv] using this
    · have := ho.cellAt 15 (by omega)
      simpa [bv] using this

set_option maxRecDepth 100000 in
set_option maxHeartbeats 2000000 in
theorem told02 (w : World) : Calls Try.prog 17 #[] w (Says (.bool true) w) := by
  have hmk : ∀ W : World, (Instr.makeSlice 22 (.int .i64 60) (.int .i64 60)).run Try.prog W = .ok (.slice (some ⟨W.heap.size, 0, none⟩) 60 60) (W.alloc (.cells (byteBlock z60) 5)) := fun _ => by kernel_rfl
  have s0 : Sl (w.alloc (.cells (byteBlock z60) 5)) (w.heap.size + 1) 1 (.slice (some ⟨w.heap.size, 0, none⟩) 60 60) 60 (bv z60) := Sl.lit w (byteBlock z60) _ 60 rfl (by decide)
  have s1 := s0.dropAt (k := 1) (by omega)
  rw [bv_drop] at s1
  have S0 := Lib.hid s0
  have S1 := Lib.hid s1
  clear s0 s1
  go_enter Try.func17, Try.ntmps17
  go_wp2_with fail
  refine Calls.mono (told_parse60 S0.out (by simp)) ?_
  rintro e w1 ⟨d1, s1, t1, c1, y1, A1, p1, rfl, hb1⟩
  have hz1 : w.heap.size + 1 ≤ w1.heap.size := by simpa using hb1.size
  have HB1 := Lib.hid (((Below.refl w.heap.size w).alloc (Nat.le_refl _) (.cells (byteBlock z60) 5)).trans (hb1.mono (by simp)))
  have SA := Lib.hid (S0.out.below (hb1.mono (by simp)))
  have SB := Lib.hid (S1.out.below (hb1.mono (by simp)))
  clear hb1
  go_wp2_with fail
  refine Calls.mono (told_out (SA.out.below (by (repeat' (first | (with_reducible exact Below.refl _ _) | (with_reducible assumption) | (with_reducible refine Below.setCell ?_ ?_ _) | (with_reducible refine Below.alloc ?_ ?_ _) | (with_reducible refine below_drewN ?_ _) | (with_reducible refine Below.drew ?_) | go_size)))) (by go_size)) ?_
  rintro e w2 ⟨g2, p2, rfl, hp2, hm2, hg2, hg3, hx12, hx15, hb2⟩
  have hz2 : w1.heap.size + 1 ≤ w2.heap.size := by simpa using hb2.size
  have hf2 : w2.cell? ⟨w1.heap.size, 5, none⟩ = some (.slice A1 46 p1) := by
    rw [(bcell hb2).1 w1.heap.size 5 (by simp)]
    simp [go_sem]
  have HB2 := Lib.hid ((HB1.out.alloc (by omega) _).trans (hb2.mono (by simp; omega)))
  have SB2 := Lib.hid ((SB.out.alloc (by omega) _).below (hb2.mono (by simp; omega)))
  have hg4 : w.heap.size ≤ g2 := by simp at hg2; omega
  clear hb2 hg2
  go_wp2_with fail
  refine Calls.mono (told_parse59 (SB2.out.below (by (repeat' (first | (with_reducible exact Below.refl _ _) | (with_reducible assumption) | (with_reducible refine Below.setCell ?_ ?_ _) | (with_reducible refine Below.alloc ?_ ?_ _) | (with_reducible refine below_drewN ?_ _) | (with_reducible refine Below.drew ?_) | go_size)))) (by go_size)) ?_
  rintro e w3 ⟨A3, p3, rfl, hb3⟩
  have hf3 := ((bcell hb3).1 w1.heap.size 5 (by omega)).trans hf2
  have hy12 := ((bcell hb3).1 g2 12 (by omega)).trans hx12
  have hy15 := ((bcell hb3).1 g2 15 (by omega)).trans hx15
  have HB3 := Lib.hid (HB2.out.trans (hb3.mono (by omega)))
  have hz3 := hb3.size
  have hl5 : ∀ o, (w3.alloc o).cell? ⟨w1.heap.size, 5, none⟩ = some (.slice A1 46 p1) := fun o => (((Below.refl w3.heap.size w3).alloc (Nat.le_refl _) o).cell (p := ⟨w1.heap.size, 5, none⟩) (by show w1.heap.size < _; omega)).trans hf3
  have hl12 : ∀ o, (w3.alloc o).cell? ⟨g2, 12, none⟩ = some (.int .u8 129) := fun o => (((Below.refl w3.heap.size w3).alloc (Nat.le_refl _) o).cell (p := ⟨g2, 12, none⟩) (by show g2 < _; omega)).trans hy12
  have hl15 : ∀ o, (w3.alloc o).cell? ⟨g2, 15, none⟩ = some (.int .u8 5) := fun o => (((Below.refl w3.heap.size w3).alloc (Nat.le_refl _) o).cell (p := ⟨g2, 15, none⟩) (by show g2 < _; omega)).trans hy15
  clear hf2 hx12 hx15 hb3 hf3 hy12 hy15
  unfold maxLen at hm2
  have hq3 : w.heap.size ≤ w3.heap.size := by omega
  go_wp2
  go_ret
  exact ⟨by simp, HB3.out.alloc hq3 _⟩
end Go.Proofs.Ythamjkccljhhcaa
