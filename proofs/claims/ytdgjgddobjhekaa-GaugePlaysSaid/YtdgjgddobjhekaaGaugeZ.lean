/-
  Gauges handed over, there and back. No statement is proved here.
-/
import Derived.Test.YtdgjgddobjhekaaGaugeY
set_option linter.unusedVariables false
namespace Go.Proofs.Ytdgjgddobjhekaa
open Go.RowKit

set_option maxHeartbeats 800000 in
theorem law5_To (lv mo ro last : Nat) (w : World) :
    Calls Try.prog 19 #[.agg #[.float .f64 lv, .float .f64 mo, .float .f64 ro, .int .u32 (last : Int)]] w (Says (.agg #[.float .f64 lv, .float .f64 mo, .float .f64 ro, .int .u32 (last : Int)]) w) := by
  have hst := st_float
  go_enter Try.func19, Try.ntmps19
  go_wp2
  clear hst
  exact bodyPost_ret (v := .agg #[.float .f64 lv, .float .f64 mo, .float .f64 ro, .int .u32 (last : Int)]) (by simp [results, Try.results19, go_sem]) rfl ⟨rfl, (by (repeat' (first | (with_reducible exact Below.refl _ _) | (with_reducible assumption) | (with_reducible refine Below.setCell ?_ ?_ _) | (with_reducible refine Below.alloc ?_ ?_ _) | go_size)))⟩
set_option maxHeartbeats 800000 in
theorem law5_From (lv mo ro last : Nat) (w : World) :
    Calls Try.prog 21 #[.agg #[.float .f64 lv, .float .f64 mo, .float .f64 ro, .int .u32 (last : Int)]] w (Says (.agg #[.float .f64 lv, .float .f64 mo, .float .f64 ro, .int .u32 (last : Int)]) w) := by
  have hst := st_float
  go_enter Try.func21, Try.ntmps21
  go_wp2
  clear hst
  exact bodyPost_ret (v := .agg #[.float .f64 lv, .float .f64 mo, .float .f64 ro, .int .u32 (last : Int)]) (by simp [results, Try.results21, go_sem]) rfl ⟨rfl, (by (repeat' (first | (with_reducible exact Below.refl _ _) | (with_reducible assumption) | (with_reducible refine Below.setCell ?_ ?_ _) | (with_reducible refine Below.alloc ?_ ?_ _) | go_size)))⟩
theorem inf_run : floatBits .mul .f64 9214871658872686752 4621819117588971520 = some 9218868437227405312 := by kernel_rfl
theorem inf_open : openW 9218868437227405312 = true := by decide
theorem nan_open {x : Nat} (h : nanW x = true) : openW x = true := by unfold openW; rw [kind_nan h]; rfl
end Go.Proofs.Ytdgjgddobjhekaa
