/-
  Gauges, the program's own: New, Open, room, Rate. No statement is proved here.
-/
import Derived.Test.YtdgjgddobjhekaaGaugeD
import Derived.Test.YtdgjgddobjhekaaTicks
set_option linter.unusedVariables false
namespace Go.Proofs.Ytdgjgddobjhekaa
open Go.RowKit

def openW (lv : Nat) : Bool := kindW lv == 5 || kindW lv == 3
def fN (n : Nat) : Nat := floatOfInt .f64 (n : Int)
/-- The room so many ticks later. -/
def roomW (lv mo ro n : Nat) : Nat :=
  match floatBits .mul .f64 lv (fN n) with
  | none => 0
  | some p => match floatBits .add .f64 ro p with
    | none => 0
    | some s => if ltW 0 (if ltW mo s = true then mo else s) = true then (if ltW mo s = true then mo else s) else 0
theorem room_none {lv mo ro n : Nat} (hp : floatBits .mul .f64 lv (floatOfInt .f64 (n : Int)) = none) : roomW lv mo ro n = 0 := by unfold roomW fN; rw [hp]
theorem room_none2 {lv mo ro n p : Nat} (hp : floatBits .mul .f64 lv (floatOfInt .f64 (n : Int)) = some p) (hs : floatBits .add .f64 ro p = none) : roomW lv mo ro n = 0 := by unfold roomW fN; rw [hp]; simp only; rw [hs]
theorem room_some {lv mo ro n p s r : Nat} {z : Bool} (hp : floatBits .mul .f64 lv (floatOfInt .f64 (n : Int)) = some p) (hs : floatBits .add .f64 ro p = some s) (hr : (if ltW mo s = true then mo else s) = r) (hz : ltW 0 r = z) : roomW lv mo ro n = if z = true then r else 0 := by
  unfold roomW fN
  rw [hp]
  simp only
  rw [hs]
  simp only
  rw [hr, hz]
theorem add_nan (x : Nat) {y : Nat} (h : nanW y = true) : floatBits .add .f64 x y = none := by
  obtain ⟨f, hf⟩ := read_nan (x := y) (of_decide_eq_true h)
  show Ieee.double.add x y = none
  unfold Ieee.Format.add
  rw [hf]
  cases Ieee.double.read x <;> rfl
theorem ltW_nan_l {x : Nat} (y : Nat) (h : nanW x = true) : ltW x y = false := by unfold ltW; rw [h]; rfl
theorem ltW_nan_r (x : Nat) {y : Nat} (h : nanW y = true) : ltW x y = false := by unfold ltW; rw [h]; cases nanW x <;> rfl

/-- A floating word stored: the walk wants it as a hypothesis. -/
theorem st_float (a : Addr) (v : Nat) (W : World) : Sem.run Try.prog (store a (.float .f64 v)) W = stored Try.prog W a (.float .f64 v) .plain := run_store _ W a _ _ rfl
set_option maxHeartbeats 400000 in
theorem gauge_New (lv mo last : Nat) (w : World) :
    Calls Try.prog 22 #[.float .f64 lv, .float .f64 mo, .int .u32 (last : Int)] w fun e w' => e = .returned (.agg #[.float .f64 lv, .float .f64 mo, .float .f64 mo, .int .u32 (last : Int)]) ∧ Below w.heap.size w w' := by
  have hst := st_float
  go_enter Try.func22, Try.ntmps22
  go_wp2
  clear hst
  exact bodyPost_ret (v := .agg #[.float .f64 lv, .float .f64 mo, .float .f64 mo, .int .u32 (last : Int)]) (by simp [results, Try.results22, go_sem]) rfl ⟨rfl, (Below.refl _ _).alloc (Nat.le_refl _) _⟩
set_option maxHeartbeats 800000 in
theorem gauge_Open (lv mo ro last : Nat) (hl : lv < 18446744073709551616) (w : World) :
    Calls Try.prog 23 #[.agg #[.float .f64 lv, .float .f64 mo, .float .f64 ro, .int .u32 (last : Int)]] w (Says (.bool (openW lv)) w) := by
  have HK := Lib.hid fun W => gauge_Kind lv hl W
  have HB := Lib.hid ((Below.refl w.heap.size w).alloc (Nat.le_refl _) (.cells #[.float .f64 lv, .float .f64 mo, .float .f64 ro, .int .u32 (last : Int)] 37))
  unfold openW
  generalize kindW lv = k at *
  clear hl
  by_cases h5 : k = 5
  · subst h5
    go_enter Try.func23, Try.ntmps23
    go_wp2_with fail
    refine (HK.out _).mono ?_
    rintro e w1 ⟨rfl, rfl⟩
    go_wp2
    go_ret
    exact ⟨rfl, HB.out⟩
  · have q5 : ((k : Int) == 5) = false := by simp; omega
    have hk5 : (k == 5) = false := by simpa using h5
    rw [hk5]
    by_cases h3 : k = 3
    · subst h3
      clear h5 hk5
      go_enter Try.func23, Try.ntmps23
      go_wp2_with fail
      refine (HK.out _).mono ?_
      rintro e w1 ⟨rfl, rfl⟩
      go_wp2
      go_ret
      exact ⟨by simp, HB.out⟩
    · have q3 : ((k : Int) == 3) = false := by simp; omega
      have hk3 : (k == 3) = false := by simpa using h3
      rw [hk3]
      clear h5 hk5 h3 hk3
      go_enter Try.func23, Try.ntmps23
      go_wp2_with fail
      refine (HK.out _).mono ?_
      rintro e w1 ⟨rfl, rfl⟩
      go_wp2
      go_ret
      exact ⟨by simp, HB.out⟩
set_option maxHeartbeats 1600000 in
theorem gauge_room (lv mo ro last n : Nat) (w : World) :
    Calls Try.prog 35 #[.agg #[.float .f64 lv, .float .f64 mo, .float .f64 ro, .int .u32 (last : Int)], .int .u32 (n : Int)] w (Says (.float .f64 (roomW lv mo ro n)) w) := by
  obtain ⟨W1, hW1⟩ : ∃ W1, W1 = w.alloc (.cells #[.float .f64 lv, .float .f64 mo, .float .f64 ro, .int .u32 (last : Int)] 37) := ⟨_, rfl⟩
  have hb : Below w.heap.size w W1 := by rw [hW1]; exact (Below.refl _ _).alloc (Nat.le_refl _) _
  cases hp : floatBits .mul .f64 lv (floatOfInt .f64 (n : Int)) with
  | none =>
    rw [room_none hp]
    obtain ⟨b, hb1, hb2, hrun⟩ := run_float_nan (P := Try.prog) W1 .mul 22 lv (floatOfInt .f64 (n : Int)) (.inr (.inr (.inl rfl))) hp
    obtain ⟨b2, hc1, hc2, hrun2⟩ := run_float_nan (P := Try.prog) W1.drew .add 22 ro b (.inl rfl) (add_nan ro hb1)
    have q1 : (FloatKind.f64.format.order b2 mo == some .gt) = false := by rw [gt_bits, ltW_nan_r _ hc1]
    have q2 : (FloatKind.f64.format.order b2 0 == some .gt) = false := by rw [gt_bits, ltW_nan_r _ hc1]
    rw [hW1] at hrun hrun2
    clear hW1 hp hb hb1 hb2 hc1 hc2
    go_enter Try.func35, Try.ntmps35
    go_wp2
    go_ret
    exact ⟨rfl, (((Below.refl _ _).alloc (Nat.le_refl _) _).drew).drew⟩
  | some p =>
    have hrun := run_float_arith (P := Try.prog) W1 .mul 22 .f64 lv (floatOfInt .f64 (n : Int)) p hp
    cases hs : floatBits .add .f64 ro p with
    | none =>
      rw [room_none2 hp hs]
      obtain ⟨b2, hc1, hc2, hrun2⟩ := run_float_nan (P := Try.prog) W1 .add 22 ro p (.inl rfl) hs
      have q1 : (FloatKind.f64.format.order b2 mo == some .gt) = false := by rw [gt_bits, ltW_nan_r _ hc1]
      have q2 : (FloatKind.f64.format.order b2 0 == some .gt) = false := by rw [gt_bits, ltW_nan_r _ hc1]
      rw [hW1] at hrun hrun2
      clear hW1 hp hb hc1 hc2 hs
      go_enter Try.func35, Try.ntmps35
      go_wp2
      go_ret
      exact ⟨rfl, ((Below.refl _ _).alloc (Nat.le_refl _) _).drew⟩
    | some s =>
      have hrun2 := run_float_arith (P := Try.prog) W1 .add 22 .f64 ro p s hs
      have q1 := gt_bits s mo
      rw [hW1] at hrun hrun2
      cases g1 : ltW mo s
      · rw [g1] at q1
        have q2 := gt_bits s 0
        cases g2 : ltW 0 s
        · rw [g2] at q2
          rw [room_some (r := s) (z := false) hp hs (if_neg (by rw [g1]; simp)) g2, if_neg (by simp)]
          clear hW1 hp hb hs g1 g2
          go_enter Try.func35, Try.ntmps35
          go_wp2
          go_ret
          exact ⟨rfl, (Below.refl _ _).alloc (Nat.le_refl _) _⟩
        · rw [g2] at q2
          rw [room_some (r := s) (z := true) hp hs (if_neg (by rw [g1]; simp)) g2, if_pos rfl]
          clear hW1 hp hb hs g1 g2
          go_enter Try.func35, Try.ntmps35
          go_wp2
          go_ret
          exact ⟨rfl, (Below.refl _ _).alloc (Nat.le_refl _) _⟩
      · rw [g1] at q1
        have q2 := gt_bits mo 0
        cases g2 : ltW 0 mo
        · rw [g2] at q2
          rw [room_some (r := mo) (z := false) hp hs (if_pos g1) g2, if_neg (by simp)]
          clear hW1 hp hb hs g1 g2
          go_enter Try.func35, Try.ntmps35
          go_wp2
          go_ret
          exact ⟨rfl, (Below.refl _ _).alloc (Nat.le_refl _) _⟩
        · rw [g2] at q2
          rw [room_some (r := mo) (z := true) hp hs (if_pos g1) g2, if_pos rfl]
          clear hW1 hp hb hs g1 g2
          go_enter Try.func35, Try.ntmps35
          go_wp2
          go_ret
          exact ⟨rfl, (Below.refl _ _).alloc (Nat.le_refl _) _⟩
end Go.Proofs.Ytdgjgddobjhekaa
