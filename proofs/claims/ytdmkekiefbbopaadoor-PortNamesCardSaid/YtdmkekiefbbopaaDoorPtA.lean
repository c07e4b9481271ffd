/-
  Ports: their states, words and stands, the program's own and the document's. No statement is proved here.
-/
import Derived.Test.YtdmkekiefbbopaaDoorPlainPt
import Derived.Test.YtdmkekiefbbopaaDoorKit2
set_option linter.unusedVariables false
namespace Go.Proofs.YtdmkekiefbbopaaDoor
open Go.RowKit

set_option maxHeartbeats 800000 in
theorem port_Right (s : Int) (w : World) : Calls Tryd.prog 16 #[.int .i64 s] w fun e w' => e = .returned (.bool (rightS s)) ∧ w = w' := by
  by_cases h1 : 0 ≤ s
  · have d1 : decide (s ≥ 0) = true := by simpa using h1
    have d1' : decide (0 ≤ s) = true := by simpa using h1
    by_cases h2 : s ≤ 4
    · have d2 : decide (s ≤ 4) = true := by simpa using h2
      have hr : rightS s = true := rightS_iff.2 ⟨h1, h2⟩
      rw [hr]
      go_enter Tryd.func16, Tryd.ntmps16
      go_wp2
      go_ret
      exact ⟨by first | rfl | (simp; done) | (simp [h1, h2]; done), rfl⟩
    · have d2 : decide (s ≤ 4) = false := by simpa using h2
      have hr : rightS s = false := rightS_no (by omega)
      rw [hr]
      go_enter Tryd.func16, Tryd.ntmps16
      go_wp2
      go_ret
      exact ⟨by first | rfl | (simp; done) | (simp [h1, h2]; done), rfl⟩
  · have d1 : decide (s ≥ 0) = false := by simpa using h1
    have d1' : decide (0 ≤ s) = false := by simpa using h1
    have hr : rightS s = false := rightS_no (by omega)
    rw [hr]
    go_enter Tryd.func16, Tryd.ntmps16
    go_wp2
    go_ret
    exact ⟨by first | rfl | (simp; done) | (simp [h1]; done), rfl⟩

set_option maxHeartbeats 800000 in
theorem ref16_Right (s : Int) (w : World) : Calls Tryd.prog 13 #[.int .i64 s] w fun e w' => e = .returned (.bool (rightS s)) ∧ w = w' := by
  by_cases h1 : 0 ≤ s
  · have d1 : decide (s ≥ 0) = true := by simpa using h1
    have d1' : decide (0 ≤ s) = true := by simpa using h1
    by_cases h2 : s ≤ 4
    · have d2 : decide (s ≤ 4) = true := by simpa using h2
      have hr : rightS s = true := rightS_iff.2 ⟨h1, h2⟩
      rw [hr]
      go_enter Tryd.func13, Tryd.ntmps13
      go_wp2
      go_ret
      exact ⟨by first | rfl | (simp; done) | (simp [h1, h2]; done), rfl⟩
    · have d2 : decide (s ≤ 4) = false := by simpa using h2
      have hr : rightS s = false := rightS_no (by omega)
      rw [hr]
      go_enter Tryd.func13, Tryd.ntmps13
      go_wp2
      go_ret
      exact ⟨by first | rfl | (simp; done) | (simp [h1, h2]; done), rfl⟩
  · have d1 : decide (s ≥ 0) = false := by simpa using h1
    have d1' : decide (0 ≤ s) = false := by simpa using h1
    have hr : rightS s = false := rightS_no (by omega)
    rw [hr]
    go_enter Tryd.func13, Tryd.ntmps13
    go_wp2
    go_ret
    exact ⟨by first | rfl | (simp; done) | (simp [h1]; done), rfl⟩

set_option maxHeartbeats 800000 in
theorem port_Learns (s : Int) (w : World) : Calls Tryd.prog 17 #[.int .i64 s] w fun e w' => e = .returned (.bool (decide (s = 3) || decide (s = 4))) ∧ w = w' := by
  by_cases h1 : s = 3
  · subst h1
    go_enter Tryd.func17, Tryd.ntmps17
    go_wp2
    go_ret
    exact ⟨by first | rfl | (simp; done), rfl⟩
  · have d1 : (s == 3) = false := by simpa using h1
    have hh : (decide (s = 3) || decide (s = 4)) = (s == 4) := by by_cases h4 : s = 4 <;> simp [h1, h4]
    rw [hh]
    go_enter Tryd.func17, Tryd.ntmps17
    go_wp2
    go_ret
    exact ⟨by first | rfl | (simp; done), rfl⟩

set_option maxHeartbeats 800000 in
theorem port_Forwards (s : Int) (w : World) : Calls Tryd.prog 18 #[.int .i64 s] w fun e w' => e = .returned (.bool (decide (s = 4))) ∧ w = w' := by
  have hh : decide (s = 4) = (s == 4) := by by_cases h4 : s = 4 <;> simp [h4]
  rw [hh]
  go_enter Tryd.func18, Tryd.ntmps18
  go_wp2
  go_ret
  exact ⟨by first | rfl | (simp; done), rfl⟩

set_option maxHeartbeats 800000 in
theorem port_Word (s : Int) (k : Nat) (hk : k < 4294967296) (w : World) : Calls Tryd.prog 9 #[.agg #[.int .i64 s, .int .u32 (k : Int)]] w (Says (.int .u64 (wordS s k : Int)) w) := by
  by_cases h : rightS s = true
  · have h' := rightS_iff.1 h
    rw [wordS_yes h]
    have HR := Lib.hid (fun W => port_Right s W)
    rw [h] at HR
    clear h
    obtain ⟨s, rfl⟩ := Int.eq_ofNat_of_zero_le h'.1
    rw [Int.toNat_natCast]
    have hor : bits .or .u64 (s : Int) ((k : Int) * 256) = ((k * 256 + s : Nat) : Int) := by
      have := u64_or_nat s (k * 256) (by omega) (by omega)
      rw [or_8 s k (by omega)] at this
      simpa using this
    have hw1 : IntKind.u64.wrap (s : Int) = (s : Int) := by rw [IntKind.wrap_u64]; omega
    have hw2 : IntKind.u64.wrap (k : Int) = (k : Int) := by rw [IntKind.wrap_u64]; omega
    have hw3 : IntKind.u64.wrap ((k : Int) * 256) = (k : Int) * 256 := by rw [IntKind.wrap_u64]; omega
    generalize ((k * 256 + s : Nat) : Int) = x at *
    generalize (s : Int) = s at *
    generalize (k : Int) = k at *
    clear h' hk
    go_enter Tryd.func9, Tryd.ntmps9
    go_wp2_with fail
    refine (HR.out _).mono ?_
    rintro e w1 ⟨rfl, rfl⟩
    go_wp2
    go_ret
    exact ⟨by first | rfl | (simp_all; done), ((Below.refl _ _).alloc (Nat.le_refl _) _)⟩
  · have h : rightS s = false := by simpa using h
    rw [wordS_no h]
    have HR := Lib.hid (fun W => port_Right s W)
    rw [h] at HR
    clear h
    go_enter Tryd.func9, Tryd.ntmps9
    go_wp2_with fail
    refine (HR.out _).mono ?_
    rintro e w1 ⟨rfl, rfl⟩
    go_wp2
    go_ret
    exact ⟨by first | rfl | (simp_all; done), ((Below.refl _ _).alloc (Nat.le_refl _) _)⟩

set_option maxHeartbeats 800000 in
theorem ref16_Word (s : Int) (k : Nat) (hk : k < 4294967296) (w : World) : Calls Tryd.prog 11 #[.agg #[.int .i64 s, .int .u32 (k : Int)]] w (Says (.int .u64 (wordS s k : Int)) w) := by
  by_cases h : rightS s = true
  · have h' := rightS_iff.1 h
    rw [wordS_yes h]
    have HR := Lib.hid (fun W => ref16_Right s W)
    rw [h] at HR
    clear h
    obtain ⟨s, rfl⟩ := Int.eq_ofNat_of_zero_le h'.1
    rw [Int.toNat_natCast]
    have hw1 : IntKind.u64.wrap (s : Int) = (s : Int) := by rw [IntKind.wrap_u64]; omega
    have hw2 : IntKind.u64.wrap (k : Int) = (k : Int) := by rw [IntKind.wrap_u64]; omega
    have hw3 : IntKind.u64.wrap (256 * (k : Int)) = 256 * (k : Int) := by rw [IntKind.wrap_u64]; omega
    have hor : IntKind.u64.wrap ((s : Int) + 256 * (k : Int)) = ((k * 256 + s : Nat) : Int) := by rw [IntKind.wrap_u64]; omega
    generalize ((k * 256 + s : Nat) : Int) = x at *
    generalize (s : Int) = s at *
    generalize (k : Int) = k at *
    clear h' hk
    go_enter Tryd.func11, Tryd.ntmps11
    go_wp2_with fail
    refine (HR.out _).mono ?_
    rintro e w1 ⟨rfl, rfl⟩
    go_wp2
    go_ret
    exact ⟨by first | rfl | (simp_all; done), ((Below.refl _ _).alloc (Nat.le_refl _) _)⟩
  · have h : rightS s = false := by simpa using h
    rw [wordS_no h]
    have HR := Lib.hid (fun W => ref16_Right s W)
    rw [h] at HR
    clear h
    go_enter Tryd.func11, Tryd.ntmps11
    go_wp2_with fail
    refine (HR.out _).mono ?_
    rintro e w1 ⟨rfl, rfl⟩
    go_wp2
    go_ret
    exact ⟨by first | rfl | (simp_all; done), ((Below.refl _ _).alloc (Nat.le_refl _) _)⟩
end Go.Proofs.YtdmkekiefbbopaaDoor
