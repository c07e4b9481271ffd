/-
  Rates, and what layer 5's told says. No statement is proved here.
-/
import Derived.Test.YtdgjgddobjhekaaGaugeG
set_option linter.unusedVariables false
namespace Go.Proofs.Ytdgjgddobjhekaa
open Go.RowKit

set_option maxHeartbeats 400000 in
theorem gauge_Rate_some (a b q : Nat) (h : floatBits .quo .f64 (floatOfInt .f64 (a : Int)) (floatOfInt .f64 (b : Int)) = some q) (w : World) :
    Calls Try.prog 15 #[.int .u64 (a : Int), .int .u64 (b : Int)] w (Says (.float .f64 q) w) := by
  have hrun := run_float_arith (P := Try.prog) w .quo 22 .f64 _ _ _ h
  clear h
  go_enter Try.func15, Try.ntmps15
  go_wp2
  go_ret
  exact ⟨rfl, Below.refl _ _⟩
def SomeNan (w : World) (e : Ending) (w' : World) : Prop := ∃ b, nanW b = true ∧ b < 18446744073709551616 ∧ e = .returned (.float .f64 b) ∧ Below w.heap.size w w'
set_option maxHeartbeats 400000 in
theorem gauge_Rate_none (a b : Nat) (h : floatBits .quo .f64 (floatOfInt .f64 (a : Int)) (floatOfInt .f64 (b : Int)) = none) (w : World) :
    Calls Try.prog 15 #[.int .u64 (a : Int), .int .u64 (b : Int)] w (SomeNan w) := by
  obtain ⟨c, h1, h2, hrun⟩ := run_float_nan (P := Try.prog) w .quo 22 _ _ (.inr (.inr (.inr rfl))) h
  have H1 := Lib.hid h1
  clear h h1
  go_enter Try.func15, Try.ntmps15
  go_wp2
  go_ret
  exact ⟨c, H1.out, h2, rfl, (Below.refl _ _).drew⟩
theorem q_half : openW 4602678819172646912 = false := by decide
theorem q_r1 : roomW 4602678819172646912 4607182418800017408 4607182418800017408 (ageN 0 0) = 4607182418800017408 := by kernel_rfl
theorem q_r2 : roomW 4602678819172646912 4607182418800017408 0 (ageN 0 0) = 0 := by kernel_rfl
theorem q_r3 : roomW 4602678819172646912 4607182418800017408 0 (ageN 2 0) = 4607182418800017408 := by kernel_rfl
theorem q_g1 : geB 4607182418800017408 = true := by kernel_rfl
theorem q_g0 : geB 0 = false := by kernel_rfl
theorem q_s1 : floatBits .sub .f64 4607182418800017408 4607182418800017408 = some 0 := by kernel_rfl
theorem q_inf : floatBits .quo .f64 (floatOfInt .f64 ((1 : Nat) : Int)) (floatOfInt .f64 ((0 : Nat) : Int)) = some 9218868437227405312 := by kernel_rfl
theorem q_nan : floatBits .quo .f64 (floatOfInt .f64 ((0 : Nat) : Int)) (floatOfInt .f64 ((0 : Nat) : Int)) = none := by kernel_rfl
theorem q_kinf : kindW 9218868437227405312 = 3 := by decide
theorem kind_nan {x : Nat} (h : nanW x = true) : kindW x = 5 := by unfold kindW; rw [if_pos h]

set_option maxRecDepth 100000 in
set_option maxHeartbeats 6400000 in
theorem told05 (w : World) : Calls Try.prog 10 #[] w (Says (.bool true) w) := by
  have t1 := fun W => gauge_Take_yes 4602678819172646912 4607182418800017408 4607182418800017408 0 0 (by decide) (by decide) (by decide) q_half q_r1 q_g1 q_s1 W
  have t2 := fun W => gauge_Take_no 4602678819172646912 4607182418800017408 0 0 0 (by decide) (by decide) (by decide) q_half q_r2 q_g0 W
  have t3 := fun W => gauge_Take_yes 4602678819172646912 4607182418800017408 0 0 2 (by decide) (by decide) (by decide) q_half q_r3 q_g1 q_s1 W
  unfold gV at t1 t2 t3
  rw [show ((0 : Nat) : Int) = 0 from rfl] at t1 t2 t3
  rw [show ((2 : Nat) : Int) = 2 from rfl] at t3
  have T1 := Lib.hid t1
  have T2 := Lib.hid t2
  have T3 := Lib.hid t3
  clear t1 t2 t3
  have N1 := Lib.hid fun W => gauge_New 4602678819172646912 4607182418800017408 0 W
  have r1 := fun W => gauge_Rate_some 1 0 _ q_inf W
  have r2 := fun W => gauge_Rate_none 0 0 q_nan W
  rw [show ((0 : Nat) : Int) = 0 from rfl] at r2
  rw [show ((0 : Nat) : Int) = 0 from rfl, show ((1 : Nat) : Int) = 1 from rfl] at r1
  have R1 := Lib.hid r1
  have R2 := Lib.hid r2
  clear r1 r2
  have hk := fun W => gauge_Kind 9218868437227405312 (by decide) W
  rw [q_kinf] at hk
  have K1 := Lib.hid hk
  clear hk
  have hst := st_float
  go_enter Try.func10, Try.ntmps10
  go_wp2_with fail
  refine (N1.out _).mono ?_
  rintro e w1 ⟨rfl, hb⟩
  have B1 := Lib.hid hb
  clear hb
  obtain ⟨g, hg⟩ : ∃ g, g = w1.heap.size := ⟨_, rfl⟩
  obtain ⟨v1, hv1⟩ : ∃ v1, v1 = w1.alloc (.cells #[.float .f64 4602678819172646912, .float .f64 4607182418800017408, .float .f64 4607182418800017408, .int .u32 0] 37) := ⟨_, rfl⟩
  have C1 : Hid (Below w.heap.size w v1) := by rw [hv1]; exact B1.out.alloc B1.out.size _
  have hgw : w.heap.size ≤ g := by rw [hg]; exact B1.out.size
  have z1 : g < v1.heap.size := by rw [hv1, hg]; simp
  have e0 : v1.cell? ⟨g, 0, none⟩ = some (.float .f64 4602678819172646912) := by rw [hv1, hg]; simp [go_sem]
  have e1 : v1.cell? ⟨g, 1, none⟩ = some (.float .f64 4607182418800017408) := by rw [hv1, hg]; simp [go_sem]
  have e2 : v1.cell? ⟨g, 2, none⟩ = some (.float .f64 4607182418800017408) := by rw [hv1, hg]; simp [go_sem]
  have e3 : v1.cell? ⟨g, 3, none⟩ = some (.int .u32 0) := by rw [hv1, hg]; simp [go_sem]
  have f1 : ∀ o, v1.frozen? ⟨g, o, none⟩ = false := fun o => by rw [hv1, hg]; simp [go_sem]
  go_wp2_with fail
  rw [← hv1]
  rw [← hg]
  clear hv1 hg B1
  refine (T1.out _).mono ?_
  rintro e u1 ⟨rfl, hb⟩
  have D1 : Hid (Below w.heap.size w u1) := C1.out.trans (hb.mono C1.out.size)
  have y1 : g < u1.heap.size := Nat.lt_of_lt_of_le z1 hb.size
  have k0 : u1.cell? ⟨g, 0, none⟩ = some (.float .f64 4602678819172646912) := (hb.cell (p := ⟨g, 0, none⟩) z1).trans e0
  have k1 : u1.cell? ⟨g, 1, none⟩ = some (.float .f64 4607182418800017408) := (hb.cell (p := ⟨g, 1, none⟩) z1).trans e1
  have k2 : u1.cell? ⟨g, 2, none⟩ = some (.float .f64 4607182418800017408) := (hb.cell (p := ⟨g, 2, none⟩) z1).trans e2
  have k3 : u1.cell? ⟨g, 3, none⟩ = some (.int .u32 0) := (hb.cell (p := ⟨g, 3, none⟩) z1).trans e3
  have m1 : ∀ o, u1.frozen? ⟨g, o, none⟩ = false := fun o => (hb.frozen (p := ⟨g, o, none⟩) z1).trans (f1 o)
  clear hb e0 e1 e2 e3 f1 C1 z1
  obtain ⟨v2, hv2⟩ : ∃ v2, v2 = (((u1.setCell ⟨g, 0, none⟩ (.float .f64 4602678819172646912)).setCell ⟨g, 1, none⟩ (.float .f64 4607182418800017408)).setCell ⟨g, 2, none⟩ (.float .f64 0)).setCell ⟨g, 3, none⟩ (.int .u32 0) := ⟨_, rfl⟩
  have C2 : Hid (Below w.heap.size w v2) := by rw [hv2]; exact (((D1.out.setCell hgw _).setCell hgw _).setCell hgw _).setCell hgw _
  have z2 : g < v2.heap.size := by rw [hv2]; simpa using y1
  have e0 : v2.cell? ⟨g, 0, none⟩ = some (.float .f64 4602678819172646912) := by rw [hv2]; simp [go_sem, k0]
  have e1 : v2.cell? ⟨g, 1, none⟩ = some (.float .f64 4607182418800017408) := by rw [hv2]; simp [go_sem, k1]
  have e2 : v2.cell? ⟨g, 2, none⟩ = some (.float .f64 0) := by rw [hv2]; simp [go_sem, k2]
  have e3 : v2.cell? ⟨g, 3, none⟩ = some (.int .u32 0) := by rw [hv2]; simp [go_sem, k3]
  have f2 : ∀ o, v2.frozen? ⟨g, o, none⟩ = false := fun o => by rw [hv2]; simp [go_sem, m1]
  go_wp2_with fail
  rw [← hv2]
  clear hv2 k0 k1 k2 k3 m1 D1 y1
  refine (T2.out _).mono ?_
  rintro e u2 ⟨rfl, hb⟩
  have D2 : Hid (Below w.heap.size w u2) := C2.out.trans (hb.mono C2.out.size)
  have y2 : g < u2.heap.size := Nat.lt_of_lt_of_le z2 hb.size
  have k0 : u2.cell? ⟨g, 0, none⟩ = some (.float .f64 4602678819172646912) := (hb.cell (p := ⟨g, 0, none⟩) z2).trans e0
  have k1 : u2.cell? ⟨g, 1, none⟩ = some (.float .f64 4607182418800017408) := (hb.cell (p := ⟨g, 1, none⟩) z2).trans e1
  have k2 : u2.cell? ⟨g, 2, none⟩ = some (.float .f64 0) := (hb.cell (p := ⟨g, 2, none⟩) z2).trans e2
  have k3 : u2.cell? ⟨g, 3, none⟩ = some (.int .u32 0) := (hb.cell (p := ⟨g, 3, none⟩) z2).trans e3
  have m2 : ∀ o, u2.frozen? ⟨g, o, none⟩ = false := fun o => (hb.frozen (p := ⟨g, o, none⟩) z2).trans (f2 o)
  clear hb e0 e1 e2 e3 f2 C2 z2
  obtain ⟨v3, hv3⟩ : ∃ v3, v3 = (((u2.setCell ⟨g, 0, none⟩ (.float .f64 4602678819172646912)).setCell ⟨g, 1, none⟩ (.float .f64 4607182418800017408)).setCell ⟨g, 2, none⟩ (.float .f64 0)).setCell ⟨g, 3, none⟩ (.int .u32 0) := ⟨_, rfl⟩
  have C3 : Hid (Below w.heap.size w v3) := by rw [hv3]; exact (((D2.out.setCell hgw _).setCell hgw _).setCell hgw _).setCell hgw _
  have z3 : g < v3.heap.size := by rw [hv3]; simpa using y2
  have e0 : v3.cell? ⟨g, 0, none⟩ = some (.float .f64 4602678819172646912) := by rw [hv3]; simp [go_sem, k0]
  have e1 : v3.cell? ⟨g, 1, none⟩ = some (.float .f64 4607182418800017408) := by rw [hv3]; simp [go_sem, k1]
  have e2 : v3.cell? ⟨g, 2, none⟩ = some (.float .f64 0) := by rw [hv3]; simp [go_sem, k2]
  have e3 : v3.cell? ⟨g, 3, none⟩ = some (.int .u32 0) := by rw [hv3]; simp [go_sem, k3]
  have f3 : ∀ o, v3.frozen? ⟨g, o, none⟩ = false := fun o => by rw [hv3]; simp [go_sem, m2]
  go_wp2_with fail
  rw [← hv3]
  clear hv3 k0 k1 k2 k3 m2 D2 y2
  refine (T3.out _).mono ?_
  rintro e u3 ⟨rfl, hb⟩
  have D3 : Hid (Below w.heap.size w u3) := C3.out.trans (hb.mono C3.out.size)
  have y3 : g < u3.heap.size := Nat.lt_of_lt_of_le z3 hb.size
  have k0 : u3.cell? ⟨g, 0, none⟩ = some (.float .f64 4602678819172646912) := (hb.cell (p := ⟨g, 0, none⟩) z3).trans e0
  have k1 : u3.cell? ⟨g, 1, none⟩ = some (.float .f64 4607182418800017408) := (hb.cell (p := ⟨g, 1, none⟩) z3).trans e1
  have k2 : u3.cell? ⟨g, 2, none⟩ = some (.float .f64 0) := (hb.cell (p := ⟨g, 2, none⟩) z3).trans e2
  have k3 : u3.cell? ⟨g, 3, none⟩ = some (.int .u32 0) := (hb.cell (p := ⟨g, 3, none⟩) z3).trans e3
  have m3 : ∀ o, u3.frozen? ⟨g, o, none⟩ = false := fun o => (hb.frozen (p := ⟨g, o, none⟩) z3).trans (f3 o)
  clear hb e0 e1 e2 e3 f3 C3 z3
  obtain ⟨v4, hv4⟩ : ∃ v4, v4 = (((u3.setCell ⟨g, 0, none⟩ (.float .f64 4602678819172646912)).setCell ⟨g, 1, none⟩ (.float .f64 4607182418800017408)).setCell ⟨g, 2, none⟩ (.float .f64 0)).setCell ⟨g, 3, none⟩ (.int .u32 2) := ⟨_, rfl⟩
  have C4 : Hid (Below w.heap.size w v4) := by rw [hv4]; exact (((D3.out.setCell hgw _).setCell hgw _).setCell hgw _).setCell hgw _
  have z4 : g < v4.heap.size := by rw [hv4]; simpa using y3
  have e0 : v4.cell? ⟨g, 0, none⟩ = some (.float .f64 4602678819172646912) := by rw [hv4]; simp [go_sem, k0]
  have e1 : v4.cell? ⟨g, 1, none⟩ = some (.float .f64 4607182418800017408) := by rw [hv4]; simp [go_sem, k1]
  have e2 : v4.cell? ⟨g, 2, none⟩ = some (.float .f64 0) := by rw [hv4]; simp [go_sem, k2]
  have e3 : v4.cell? ⟨g, 3, none⟩ = some (.int .u32 2) := by rw [hv4]; simp [go_sem, k3]
  have f4 : ∀ o, v4.frozen? ⟨g, o, none⟩ = false := fun o => by rw [hv4]; simp [go_sem, m3]
  go_wp2_with fail
  rw [← hv4]
  clear hv4 k0 k1 k2 k3 m3 D3 y3
  refine (R1.out _).mono ?_
  rintro e w5 ⟨rfl, hb⟩
  have B5 := Lib.hid (C4.out.trans (hb.mono C4.out.size))
  clear hb e0 e1 e2 e3 f4 z4
  go_wp2_with fail
  refine (K1.out _).mono ?_
  rintro e w6 ⟨rfl, rfl⟩
  go_wp2_with fail
  refine (R2.out _).mono ?_
  rintro e w7 ⟨b, hb1, hb2, rfl, hb⟩
  have B7 := Lib.hid (B5.out.trans (hb.mono B5.out.size))
  have hk2 := fun W => gauge_Kind b hb2 W
  rw [kind_nan hb1] at hk2
  have K2 := Lib.hid hk2
  clear hb hk2 hb1 hb2
  go_wp2_with fail
  refine (K2.out _).mono ?_
  rintro e w8 ⟨rfl, rfl⟩
  go_wp2
  go_ret
  exact ⟨by simp, B7.out⟩
end Go.Proofs.Ytdgjgddobjhekaa
