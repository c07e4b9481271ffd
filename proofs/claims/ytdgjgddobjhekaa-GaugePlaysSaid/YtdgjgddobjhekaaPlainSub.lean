/-
  A floating word less itself, and one by a nought. Nothing of the program is named here. No statement is proved here.
-/
import Derived.Test.YtdgjgddobjhekaaPlainCmp
namespace Go.Proofs.Ytdgjgddobjhekaa
open Go.RowKit

theorem write_zero (i : Int) : Ieee.double.write (.number false 0 i) = 0 := by
  show Ieee.double.nearest false 0 i = 0
  unfold Ieee.Format.nearest
  simp [Ieee.Format.word]
theorem sub_self_num {x : Nat} (h : rungW x < 9218868437227405312) : floatBits .sub .f64 x x = some 0 := by
  obtain ⟨m, a, hr, _⟩ := read_num h
  show Ieee.double.sub x x = some 0
  unfold Ieee.Format.sub
  rw [hr]
  have h0 : ∀ s m, Ieee.signed s m 0 + Ieee.signed (!s) m 0 = 0 := by
    intro s m
    unfold Ieee.signed
    cases s <;> simp <;> omega
  show Option.map Ieee.double.write (some (Ieee.Datum.number (if Ieee.signed (sgnW x) m (_ - _ : Int).toNat + Ieee.signed (!sgnW x) m (_ - _ : Int).toNat = 0 then sgnW x && !sgnW x else decide (Ieee.signed (sgnW x) m (_ - _ : Int).toNat + Ieee.signed (!sgnW x) m (_ - _ : Int).toNat < 0)) (Ieee.signed (sgnW x) m (_ - _ : Int).toNat + Ieee.signed (!sgnW x) m (_ - _ : Int).toNat).natAbs _)) = _
  rw [Int.min_self, Int.sub_self]
  simp only [Int.toNat_zero, h0, if_true, Int.natAbs_zero, Bool.and_not_self]
  show some (Ieee.double.write (.number false 0 _)) = _
  rw [write_zero]
theorem sub_self_inf {x : Nat} (h : rungW x = 9218868437227405312) : floatBits .sub .f64 x x = none := by
  show Ieee.double.sub x x = none
  unfold Ieee.Format.sub
  rw [read_inf h]
  show Option.map _ (if sgnW x = !sgnW x then _ else none) = none
  cases sgnW x <;> rfl
theorem inv_zero : floatBits .quo .f64 4607182418800017408 0 = some 9218868437227405312 := by kernel_rfl
theorem inv_minus : floatBits .quo .f64 4607182418800017408 9223372036854775808 = some 18442240474082181120 := by kernel_rfl
theorem zero_cases {x : Nat} (hx : x < 18446744073709551616) (h : rungW x = 0) : (x = 0 ∧ sgnW x = false) ∨ (x = 9223372036854775808 ∧ sgnW x = true) := by
  unfold rungW at h
  unfold sgnW
  rcases (show x = 0 ∨ x = 9223372036854775808 by omega) with rfl | rfl
  · exact .inl ⟨rfl, rfl⟩
  · exact .inr ⟨rfl, rfl⟩
end Go.Proofs.Ytdgjgddobjhekaa
