/-
  A memory that isn't there, and counts of which there is none. No statement is proved here.
-/
import Derived.Test.YthamjkccljhhcabMemO
set_option linter.unusedVariables false
namespace Go.Proofs.Ythamjkccljhhcab
open Go.RowKit

theorem nil_Cells (w : World) :
    Calls Try.prog 15 #[.pointer none] w fun e w' => e = .returned (.int .i64 0) ∧ w = w' := by
  go_enter Try.func15, Try.ntmps15
  go_wp2
  go_ret
  exact ⟨rfl, rfl⟩

theorem nil_Locks (w : World) :
    Calls Try.prog 16 #[.pointer none] w fun e w' => e = .returned (.int .i64 0) ∧ w = w' := by
  go_enter Try.func16, Try.ntmps16
  go_wp2
  go_ret
  exact ⟨rfl, rfl⟩

theorem nil_Time (w : World) :
    Calls Try.prog 19 #[.pointer none] w fun e w' => e = .returned (.int .i64 0) ∧ w = w' := by
  go_enter Try.func19, Try.ntmps19
  go_wp2
  go_ret
  exact ⟨rfl, rfl⟩

theorem nil_hasCell (i : Int) (w : World) :
    Calls Try.prog 45 #[.pointer none, .int .i64 i] w fun e w' => e = .returned (.bool false) ∧ w = w' := by
  by_cases hi : 0 ≤ i
  · have hd : decide (0 ≤ i) = true := by simpa using hi
    have hn : decide (i < 0) = false := by simp; omega
    have hn2 : ¬ i < 0 := by omega
    go_enter Try.func45, Try.ntmps45
    go_wp2_with fail
    refine (nil_Cells _).mono ?_
    rintro e w1 ⟨rfl, rfl⟩
    go_wp2
    go_ret
    exact ⟨ret_bool (by simp), rfl⟩
  · have hd : decide (0 ≤ i) = false := by simpa using hi
    go_enter Try.func45, Try.ntmps45
    go_wp2
    go_ret
    exact ⟨rfl, rfl⟩

theorem nil_hasLock (i : Int) (w : World) :
    Calls Try.prog 47 #[.pointer none, .int .i64 i] w fun e w' => e = .returned (.bool false) ∧ w = w' := by
  by_cases hi : 0 ≤ i
  · have hd : decide (0 ≤ i) = true := by simpa using hi
    have hn : decide (i < 0) = false := by simp; omega
    have hn2 : ¬ i < 0 := by omega
    go_enter Try.func47, Try.ntmps47
    go_wp2_with fail
    refine (nil_Locks _).mono ?_
    rintro e w1 ⟨rfl, rfl⟩
    go_wp2
    go_ret
    exact ⟨ret_bool (by simp), rfl⟩
  · have hd : decide (0 ≤ i) = false := by simpa using hi
    go_enter Try.func47, Try.ntmps47
    go_wp2
    go_ret
    exact ⟨rfl, rfl⟩

theorem nil_Load (i : Int) (w : World) :
    Calls Try.prog 40 #[.pointer none, .int .i64 i] w fun e w' => e = .returned (.int .u64 0) ∧ w = w' := by
  go_enter Try.func40, Try.ntmps40
  go_wp2_with fail
  refine (nil_hasCell i _).mono ?_
  rintro e w1 ⟨rfl, rfl⟩
  go_wp2
  go_ret
  exact ⟨rfl, rfl⟩

theorem nil_Store (i v : Int) (w : World) :
    Calls Try.prog 26 #[.pointer none, .int .i64 i, .int .u64 v] w fun e w' => e = .returned (.tuple #[]) ∧ w = w' := by
  go_enter Try.func26, Try.ntmps26
  go_wp2_with fail
  refine (nil_hasCell i _).mono ?_
  rintro e w1 ⟨rfl, rfl⟩
  go_wp2
  refine bodyPost_ret (results_none rfl _ _ _) rfl ?_
  exact ⟨rfl, rfl⟩

theorem nil_Peek (i : Int) (w : World) :
    Calls Try.prog 20 #[.pointer none, .int .i64 i] w fun e w' => e = .returned (.int .u64 0) ∧ w = w' := by
  go_enter Try.func20, Try.ntmps20
  go_wp2_with fail
  refine (nil_hasCell i _).mono ?_
  rintro e w1 ⟨rfl, rfl⟩
  go_wp2
  go_ret
  exact ⟨rfl, rfl⟩

theorem nil_Holder (i : Int) (w : World) :
    Calls Try.prog 22 #[.pointer none, .int .i64 i] w fun e w' => e = .returned (.int .i64 (-1)) ∧ w = w' := by
  go_enter Try.func22, Try.ntmps22
  go_wp2_with fail
  refine (nil_hasLock i _).mono ?_
  rintro e w1 ⟨rfl, rfl⟩
  go_wp2
  go_ret
  exact ⟨rfl, rfl⟩

theorem nil_hand (i f t : Int) (w : World) :
    Calls Try.prog 49 #[.pointer none, .int .i64 i, .int .i64 f, .int .i64 t] w fun e w' => e = .returned (.bool false) ∧ w = w' := by
  go_enter Try.func49, Try.ntmps49
  go_wp2_with fail
  refine (nil_hasLock i _).mono ?_
  rintro e w1 ⟨rfl, rfl⟩
  go_wp2
  go_ret
  exact ⟨rfl, rfl⟩

theorem nil_Take (l who : Int) (w : World) :
    Calls Try.prog 25 #[.pointer none, .int .i64 l, .int .i64 who] w fun e w' => e = .returned (.bool false) ∧ w = w' := by
  by_cases hi : 0 ≤ who
  · have hd : decide (0 ≤ who) = true := by simpa using hi
    go_enter Try.func25, Try.ntmps25
    go_wp2_with fail
    refine (nil_hand l (-1) who _).mono ?_
    rintro e w1 ⟨rfl, rfl⟩
    go_wp2
    go_ret
    exact ⟨rfl, rfl⟩
  · have hd : decide (0 ≤ who) = false := by simpa using hi
    go_enter Try.func25, Try.ntmps25
    go_wp2
    go_ret
    exact ⟨rfl, rfl⟩

theorem nil_Free (l who : Int) (w : World) :
    Calls Try.prog 24 #[.pointer none, .int .i64 l, .int .i64 who] w fun e w' => e = .returned (.bool false) ∧ w = w' := by
  by_cases hi : 0 ≤ who
  · have hd : decide (0 ≤ who) = true := by simpa using hi
    go_enter Try.func24, Try.ntmps24
    go_wp2_with fail
    refine (nil_hand l who (-1) _).mono ?_
    rintro e w1 ⟨rfl, rfl⟩
    go_wp2
    go_ret
    exact ⟨rfl, rfl⟩
  · have hd : decide (0 ≤ who) = false := by simpa using hi
    go_enter Try.func24, Try.ntmps24
    go_wp2
    go_ret
    exact ⟨rfl, rfl⟩

set_option maxHeartbeats 800000 in
theorem nil_do0 (kd a who u : Int) (hk : wrap64 ((IntKind.u64.wrap kd).tmod 6) = 0) (w : World) :
    Calls Try.prog 17 #[.pointer none, .agg #[.int .i64 kd, .int .i64 a, .int .i64 who, .int .u64 u]] w fun e w' => e = .returned (.int .u64 0) ∧ Below w.heap.size w w' := by
  have HB := Lib.hid ((Below.refl w.heap.size w).alloc (Nat.le_refl _) (.cells #[.int .i64 kd, .int .i64 a, .int .i64 who, .int .u64 u] 34))
  go_enter Try.func17, Try.ntmps17
  go_wp2_with fail
  refine (nil_Load a _).mono ?_
  rintro e w1 ⟨rfl, rfl⟩
  go_wp2
  go_ret
  exact ⟨rfl, HB.out⟩

set_option maxHeartbeats 800000 in
theorem nil_do1 (kd a who u : Int) (hk : wrap64 ((IntKind.u64.wrap kd).tmod 6) = 1) (w : World) :
    Calls Try.prog 17 #[.pointer none, .agg #[.int .i64 kd, .int .i64 a, .int .i64 who, .int .u64 u]] w fun e w' => e = .returned (.int .u64 0) ∧ Below w.heap.size w w' := by
  have HB := Lib.hid ((Below.refl w.heap.size w).alloc (Nat.le_refl _) (.cells #[.int .i64 kd, .int .i64 a, .int .i64 who, .int .u64 u] 34))
  go_enter Try.func17, Try.ntmps17
  go_wp2_with fail
  refine (nil_Store a u _).mono ?_
  rintro e w1 ⟨rfl, rfl⟩
  go_wp2
  go_ret
  exact ⟨rfl, HB.out⟩

set_option maxHeartbeats 800000 in
theorem nil_do2 (kd a who u : Int) (hk : wrap64 ((IntKind.u64.wrap kd).tmod 6) = 2) (w : World) :
    Calls Try.prog 17 #[.pointer none, .agg #[.int .i64 kd, .int .i64 a, .int .i64 who, .int .u64 u]] w fun e w' => e = .returned (.int .u64 0) ∧ Below w.heap.size w w' := by
  have HB := Lib.hid ((Below.refl w.heap.size w).alloc (Nat.le_refl _) (.cells #[.int .i64 kd, .int .i64 a, .int .i64 who, .int .u64 u] 34))
  go_enter Try.func17, Try.ntmps17
  go_wp2_with fail
  refine (nil_Take a who _).mono ?_
  rintro e w1 ⟨rfl, rfl⟩
  go_wp2
  go_ret
  exact ⟨rfl, HB.out⟩

set_option maxHeartbeats 800000 in
theorem nil_do3 (kd a who u : Int) (hk : wrap64 ((IntKind.u64.wrap kd).tmod 6) = 3) (w : World) :
    Calls Try.prog 17 #[.pointer none, .agg #[.int .i64 kd, .int .i64 a, .int .i64 who, .int .u64 u]] w fun e w' => e = .returned (.int .u64 0) ∧ Below w.heap.size w w' := by
  have HB := Lib.hid ((Below.refl w.heap.size w).alloc (Nat.le_refl _) (.cells #[.int .i64 kd, .int .i64 a, .int .i64 who, .int .u64 u] 34))
  go_enter Try.func17, Try.ntmps17
  go_wp2_with fail
  refine (nil_Free a who _).mono ?_
  rintro e w1 ⟨rfl, rfl⟩
  go_wp2
  go_ret
  exact ⟨rfl, HB.out⟩

set_option maxHeartbeats 800000 in
theorem nil_do4 (kd a who u : Int) (hk : wrap64 ((IntKind.u64.wrap kd).tmod 6) = 4) (w : World) :
    Calls Try.prog 17 #[.pointer none, .agg #[.int .i64 kd, .int .i64 a, .int .i64 who, .int .u64 u]] w fun e w' => e = .returned (.int .u64 0) ∧ Below w.heap.size w w' := by
  have HB := Lib.hid ((Below.refl w.heap.size w).alloc (Nat.le_refl _) (.cells #[.int .i64 kd, .int .i64 a, .int .i64 who, .int .u64 u] 34))
  go_enter Try.func17, Try.ntmps17
  go_wp2_with fail
  refine (nil_Peek a _).mono ?_
  rintro e w1 ⟨rfl, rfl⟩
  go_wp2
  go_ret
  exact ⟨rfl, HB.out⟩

set_option maxHeartbeats 800000 in
theorem nil_do5 (kd a who u : Int) (hk : wrap64 ((IntKind.u64.wrap kd).tmod 6) = 5) (w : World) :
    Calls Try.prog 17 #[.pointer none, .agg #[.int .i64 kd, .int .i64 a, .int .i64 who, .int .u64 u]] w fun e w' => e = .returned (.int .u64 18446744073709551615) ∧ Below w.heap.size w w' := by
  have HB := Lib.hid ((Below.refl w.heap.size w).alloc (Nat.le_refl _) (.cells #[.int .i64 kd, .int .i64 a, .int .i64 who, .int .u64 u] 34))
  go_enter Try.func17, Try.ntmps17
  go_wp2_with fail
  refine (nil_Holder a _).mono ?_
  rintro e w1 ⟨rfl, rfl⟩
  go_wp2
  go_ret
  exact ⟨rfl, HB.out⟩

theorem nil_do (kd a who u : Int) (k : Nat) (hk6 : k < 6) (hk : wrap64 ((IntKind.u64.wrap kd).tmod 6) = (k : Int)) (w : World) :
    Calls Try.prog 17 #[.pointer none, .agg #[.int .i64 kd, .int .i64 a, .int .i64 who, .int .u64 u]] w fun e w' => e = .returned (.int .u64 (if k = 5 then 18446744073709551615 else 0)) ∧ Below w.heap.size w w' := by
  match k, hk6, hk with
  | 0, _, hk => exact nil_do0 kd a who u hk w
  | 1, _, hk => exact nil_do1 kd a who u hk w
  | 2, _, hk => exact nil_do2 kd a who u hk w
  | 3, _, hk => exact nil_do3 kd a who u hk w
  | 4, _, hk => exact nil_do4 kd a who u hk w
  | 5, _, hk => exact nil_do5 kd a who u hk w

set_option maxHeartbeats 800000 in
theorem mem_New_bad (C L : Int) (h : C < 1 ∨ 1048576 < C ∨ L < 0 ∨ 128 < L) (w : World) :
    Calls Try.prog 12 #[.int .i64 C, .int .i64 L] w fun e w' => e = .returned (.tuple #[.pointer none, .int .i64 1]) ∧ w = w' := by
  by_cases h0 : C < 1
  · have d0 : decide (C < 1) = true := by simpa using h0
    go_enter Try.func12, Try.ntmps12
    go_wp2
    go_ret2
    exact ⟨rfl, rfl⟩
  have d0 : decide (C < 1) = false := by simpa using h0
  by_cases h1 : 1048576 < C
  · have d1 : decide (1048576 < C) = true := by simpa using h1
    have g1 : decide (C > 1048576) = true := d1
    go_enter Try.func12, Try.ntmps12
    go_wp2
    go_ret2
    exact ⟨rfl, rfl⟩
  have d1 : decide (1048576 < C) = false := by simpa using h1
  have g1 : decide (C > 1048576) = false := d1
  by_cases h2 : L < 0
  · have d2 : decide (L < 0) = true := by simpa using h2
    go_enter Try.func12, Try.ntmps12
    go_wp2
    go_ret2
    exact ⟨rfl, rfl⟩
  have d2 : decide (L < 0) = false := by simpa using h2
  have h3 : 128 < L := by omega
  have d3 : decide (128 < L) = true := by simpa using h3
  have g3 : decide (L > 128) = true := d3
  go_enter Try.func12, Try.ntmps12
  go_wp2
  go_ret2
  exact ⟨rfl, rfl⟩

set_option maxHeartbeats 800000 in
theorem ref6_New_bad (C L : Int) (h : C < 1 ∨ 1048576 < C ∨ L < 0 ∨ 128 < L) (w : World) :
    Calls Try.prog 13 #[.int .i64 C, .int .i64 L] w fun e w' => e = .returned (.pointer none) ∧ w = w' := by
  by_cases h0 : C < 1
  · have d0 : decide (C < 1) = true := by simpa using h0
    go_enter Try.func13, Try.ntmps13
    go_wp2
    go_ret
    exact ⟨rfl, rfl⟩
  have d0 : decide (C < 1) = false := by simpa using h0
  by_cases h1 : 1048576 < C
  · have d1 : decide (1048576 < C) = true := by simpa using h1
    have g1 : decide (C > 1048576) = true := d1
    go_enter Try.func13, Try.ntmps13
    go_wp2
    go_ret
    exact ⟨rfl, rfl⟩
  have d1 : decide (1048576 < C) = false := by simpa using h1
  have g1 : decide (C > 1048576) = false := d1
  by_cases h2 : L < 0
  · have d2 : decide (L < 0) = true := by simpa using h2
    go_enter Try.func13, Try.ntmps13
    go_wp2
    go_ret
    exact ⟨rfl, rfl⟩
  have d2 : decide (L < 0) = false := by simpa using h2
  have h3 : 128 < L := by omega
  have d3 : decide (128 < L) = true := by simpa using h3
  have g3 : decide (L > 128) = true := d3
  go_enter Try.func13, Try.ntmps13
  go_wp2
  go_ret
  exact ⟨rfl, rfl⟩
end Go.Proofs.Ythamjkccljhhcab
