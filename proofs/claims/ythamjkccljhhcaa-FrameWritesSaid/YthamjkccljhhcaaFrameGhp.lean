/-
  The program's own Out, one way through. No statement is proved here.
-/
import Derived.Test.YthamjkccljhhcaaFrameG
namespace Go.Proofs.Ythamjkccljhhcaa
open Go.RowKit

set_option maxRecDepth 100000 in
set_option maxHeartbeats 1000000 in
theorem frame_Out_had_plain {l : List Nat} (hl : ∀ x ∈ l, x < 256) {v : Value} {w : World} {B : Nat} (hv : Sl w B 1 v l.length (bv l)) (hB : B ≤ w.heap.size) (vid : Int)  (he : errN l = 0) (ht : tagB l = true) :
    Calls Try.prog 26 #[v, .bool false, .int .i64 vid] w (OutsTo l false vid w) := by
  obtain ⟨h60, hlong, _⟩ := errN_ok he
  have hlong2 : l.length ≤ 1518 := by unfold headN at hlong; split at hlong <;> omega
  have hlook : lookV l = .tuple #[.bool true, .int .i64 0] := by unfold lookV; rw [if_pos he, he, ht]; rfl
  have ho : oErr l false vid = 0 := oErr_plain he vid
  have hbytes : oBytes l false (vid).toNat = padL (l.take 12 ++ l.drop 16) := by
    unfold oBytes
    rw [ht]
    simp
  obtain ⟨r, hr⟩ : ∃ r, r = l.take 12 ++ l.drop 16 := ⟨_, rfl⟩
  rw [← hr] at hbytes
  have HR := Lib.hid hr
  clear hr
  obtain ⟨b, off, cap, rfl, hcap, hmx, hbB, _⟩ := hv.at_ (by omega)
  have s0 := hv.cutTo (k := 12) (by omega)
  have s12 := hv.dropAt (k := 12) (by omega)
  have s14 := s12.dropAt (k := 2) (by omega)
  have s16 := s12.dropAt (k := 4) (by omega)
  rw [List.drop_drop, bv_drop] at s14 s16
  have s14 : Sl w B 1 (.slice (some ⟨b, off + 12 + 2, none⟩) (l.length - 12 - 2) (cap - 12 - 2)) (l.length - 12 - 2) (bv (l.drop 14)) := s14
  have s16 : Sl w B 1 (.slice (some ⟨b, off + 12 + 4, none⟩) (l.length - 12 - 4) (cap - 12 - 4)) (l.length - 12 - 4) (bv (l.drop 16)) := s16
  rw [bv_drop] at s12
  rw [Nat.mul_one, bv_take] at s0
  have S0 := Lib.hid s0
  have S12 := Lib.hid s12
  have S14 := Lib.hid s14
  have S16 := Lib.hid s16
  have hnum : num2 (l.drop 14) 0 = num2 l 14 := num2_drop l 14 0
  have HN := Lib.hid hnum
  have n3 := num2_lt hl 14
  have HO := Lib.hid ho
  have HBY := Lib.hid hbytes
  have HLK := Lib.hid hlook
  have HV := Lib.hid hv
  have c12 : ¬ cap = 12 := by omega
  have c14 : ¬ cap - 12 = 2 := by omega
  have c16 : ¬ cap - 12 = 4 := by omega
  unfold maxLen at hmx
  obtain ⟨X, hX⟩ : ∃ X, X = max (l.length - 12 - 4) 60 := ⟨_, rfl⟩
  obtain ⟨M, hM⟩ : ∃ M, M = 16 + X := ⟨_, rfl⟩
  have hM1 : M ≤ 10000 := by omega
  have hX1 : X ≤ 9000 := by omega
  have hif : (if (((l.length - 12 - 4 : Nat) : Int)) < 60 then (60 : Int) else ((l.length - 12 - 4 : Nat) : Int)) = (X : Int) := by split <;> omega
  have hif2 : (if (60 : Int) < (((l.length - 12 - 4 : Nat) : Int)) then ((l.length - 12 - 4 : Nat) : Int) else (60 : Int)) = (X : Int) := by split <;> omega
  have hmk : ∀ W, (Instr.makeSlice 22 (.int .i64 0) (.int .i64 (16 + (X : Int)))).run Try.prog W = .ok (.slice (some ⟨W.heap.size, 0, none⟩) 0 M) (W.alloc (.cells (mkC (.int .u8 0) 1 M) 5)) := fun W => by
    have := run_mk (P := Try.prog) W stBytes M (by omega)
    rw [hM] at this ⊢
    exact this
  have HX := Lib.hid hX
  clear hX
  have HM := Lib.hid hM
  clear he ht hlook hv s0 s12 s14 s16 hnum ho hbytes hM
  go_enter Try.func26, Try.ntmps26
  go_wp2_with fail
  refine (frame_look hl HV.out).mono ?_
  rw [HLK.out]
  rintro e w1 ⟨rfl, k1, rfl⟩
  go_wp2_with fail
  refine (frame_number (B := B) (l := l.drop 14) (by omega) (mem_drop hl 14) (S14.out.drewN _)).mono ?_
  rw [HN.out]
  rintro e w1 ⟨rfl, k2, rfl⟩
  go_wp2_with (first
    | (at_builtin; refine wpList_apv _ rfl stBytes (.tmp 43) (.tmp 45) rfl w.heap.size _ 0 [] rfl (by refine own_made_at ?_ ?_ ?_ <;> first | omega | (simp; done) | (simp [maxLen]; omega)) B _ 12 (bv (l.take 12)) rfl (S0.out.below (by (repeat' (first | (with_reducible exact Below.refl _ _) | (with_reducible assumption) | (with_reducible refine Below.setCell ?_ ?_ _) | (with_reducible refine Below.alloc ?_ ?_ _) | (with_reducible refine below_drewN ?_ _) | (with_reducible refine Below.drew ?_) | go_size)))) (bv_one _) (by omega) (by go_size) ?_; intro A1 p1 w1 ho1 hg1 hat1 hb1; clear hg1 hat1; have hB1 : Below w.heap.size w w1 := Below.trans (by (repeat' (first | (with_reducible exact Below.refl _ _) | (with_reducible assumption) | (with_reducible refine Below.setCell ?_ ?_ _) | (with_reducible refine Below.alloc ?_ ?_ _) | (with_reducible refine below_drewN ?_ _) | (with_reducible refine Below.drew ?_) | go_size))) hb1)
    | (at_builtin; refine wpList_apv _ rfl stBytes (.tmp 55) (.tmp 56) rfl w.heap.size _ _ _ rfl ho1 B _ (l.length - 12 - 4) (bv (l.drop 16)) rfl (S16.out.below (hB1.mono hB)) (bv_one _) (by omega) hB1.size ?_; intro A3 p3 w3 ho3 hg3 hat3 hb3; clear hg3 hat3)
    | fail)
  rw [List.nil_append, ← bv_append, ← HR.out] at ho3
  have HO3 := Lib.hid ho3
  have HB3 := Lib.hid (hB1.trans hb3)
  clear ho3 hb3 ho1 hb1 hB1
  refine (frame_pad HO3.out HB3.out.size (by omega)).mono ?_
  rintro e w4 ⟨A4, p4, rfl, ho4, hb4⟩
  go_wp2
  go_ret2
  exact OutsTo.ok HO.out HBY.out rfl ho4 (HB3.out.trans hb4)
end Go.Proofs.Ythamjkccljhhcaa
