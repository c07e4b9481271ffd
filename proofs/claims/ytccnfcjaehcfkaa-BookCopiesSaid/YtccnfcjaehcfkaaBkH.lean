/-
  A book that isn't there: what all calls answer. No statement is proved here.
-/
import Derived.Test.YtccnfcjaehcfkaaBkG
set_option linter.unusedVariables false
namespace Go.Proofs.Ytccnfcjaehcfkaa
open Go.RowKit

theorem home0 (v : Int) (m : Nat) (hm : m < 18446744073709551616) (w : World) :
    Calls Try.prog 87 #[.pointer none, .agg #[.int .i64 v, .int .u64 (m : Int)]] w (Says (.int .i64 (-1)) w) := by
  have h := book_home (SizeOf.none_ w) (by omega) (by omega) (by omega) v m hm
  rw [home_none] at h
  exact h
theorem at0 (s n : Int) (w : World) :
    Calls Try.prog 82 #[.pointer none, .int .i64 s, .int .i64 n] w (Says (.int .i64 (-1)) w) := by
  have h := book_at (SizeOf.none_ w) (by omega) (by omega) (by omega) s n
  have e : atI 0 0 s n = -1 := if_neg (by omega)
  rw [e] at h
  exact h
set_option maxHeartbeats 1600000 in
theorem book_Lookup0 (v : Int) (m : Nat) (hm : m < 18446744073709551616) (w : World) :
    Calls Try.prog 53 #[.pointer none, .agg #[.int .i64 v, .int .u64 (m : Int)]] w (Says (.int .i64 (-1)) w) := by
  have HH := Lib.hid fun w => home0 v m hm w
  clear hm
  go_enter Try.func53, Try.ntmps53
  go_wp2_with fail
  refine (HH.out _).mono ?_
  rintro e w1 ⟨rfl, hb⟩
  have HB1 : Hid (Below w.heap.size w w1) := Below.trans ((Below.refl _ _).alloc (Nat.le_refl _) _) (hb.mono (by simp))
  clear hb
  go_wp2
  go_ret
  exact ⟨rfl, HB1.out⟩
set_option maxHeartbeats 1600000 in
theorem book_Learn0 (v : Int) (m : Nat) (hm : m < 18446744073709551616) (port : Int) (now : Int) (w : World) :
    Calls Try.prog 54 #[.pointer none, .agg #[.int .i64 v, .int .u64 (m : Int)], .int .i64 port, .int .u32 now] w (Says (.int .i64 5) w) := by
  have HH := Lib.hid fun w => home0 v m hm w
  clear hm
  go_enter Try.func54, Try.ntmps54
  go_wp2_with fail
  refine (HH.out _).mono ?_
  rintro e w1 ⟨rfl, hb⟩
  have HB1 : Hid (Below w.heap.size w w1) := Below.trans ((Below.refl _ _).alloc (Nat.le_refl _) _) (hb.mono (by simp))
  clear hb
  go_wp2
  go_ret
  exact ⟨rfl, HB1.out⟩
set_option maxHeartbeats 1600000 in
theorem book_Order0 (v : Int) (m : Nat) (hm : m < 18446744073709551616) (port : Int) (now : Int) (w : World) :
    Calls Try.prog 72 #[.pointer none, .agg #[.int .i64 v, .int .u64 (m : Int)], .int .i64 port, .int .u32 now] w (Says (.int .i64 5) w) := by
  have HH := Lib.hid fun w => home0 v m hm w
  clear hm
  go_enter Try.func72, Try.ntmps72
  go_wp2_with fail
  refine (HH.out _).mono ?_
  rintro e w1 ⟨rfl, hb⟩
  have HB1 : Hid (Below w.heap.size w w1) := Below.trans ((Below.refl _ _).alloc (Nat.le_refl _) _) (hb.mono (by simp))
  clear hb
  go_wp2
  go_ret
  exact ⟨rfl, HB1.out⟩
set_option maxHeartbeats 1600000 in
theorem book_Drop0 (v : Int) (m : Nat) (hm : m < 18446744073709551616) (w : World) :
    Calls Try.prog 73 #[.pointer none, .agg #[.int .i64 v, .int .u64 (m : Int)]] w (Says (.bool false) w) := by
  have HH := Lib.hid fun w => home0 v m hm w
  clear hm
  go_enter Try.func73, Try.ntmps73
  go_wp2_with fail
  refine (HH.out _).mono ?_
  rintro e w1 ⟨rfl, hb⟩
  have HB1 : Hid (Below w.heap.size w w1) := Below.trans ((Below.refl _ _).alloc (Nat.le_refl _) _) (hb.mono (by simp))
  clear hb
  go_wp2
  go_ret
  exact ⟨rfl, HB1.out⟩
set_option maxHeartbeats 1600000 in
theorem book_Age0 (s n : Int) (now lim : Int) (w : World) :
    Calls Try.prog 74 #[.pointer none, .int .i64 s, .int .i64 n, .int .u32 now, .int .u32 lim] w (Says (.int .i64 0) w) := by
  have HH := Lib.hid fun w => at0 s n w
  go_enter Try.func74, Try.ntmps74
  go_wp2_with fail
  refine (HH.out _).mono ?_
  rintro e w1 ⟨rfl, hb⟩
  have HB1 : Hid (Below w.heap.size w w1) := hb
  clear hb
  go_wp2
  go_ret
  exact ⟨rfl, HB1.out⟩
set_option maxHeartbeats 1600000 in
theorem book_Bucket0 (s n : Int) (w : World) :
    Calls Try.prog 43 #[.pointer none, .int .i64 s, .int .i64 n] w (Says (.slice none 0 0) w) := by
  have HH := Lib.hid fun w => at0 s n w
  go_enter Try.func43, Try.ntmps43
  go_wp2_with fail
  refine (HH.out _).mono ?_
  rintro e w1 ⟨rfl, hb⟩
  have HB1 : Hid (Below w.heap.size w w1) := hb
  clear hb
  go_wp2
  go_ret
  exact ⟨rfl, HB1.out⟩
set_option maxHeartbeats 1600000 in
theorem book_Flush0 (a b : Int) (w : World) :
    Calls Try.prog 75 #[.pointer none, .agg #[.int .i64 a, .int .i64 b]] w (Says (.int .i64 0) w) := by
  go_enter Try.func75, Try.ntmps75
  go_wp2
  go_ret
  exact ⟨rfl, (by (repeat' (first | (with_reducible exact Below.refl _ _) | (with_reducible refine Below.alloc ?_ ?_ _) | go_size)))⟩
set_option maxHeartbeats 1600000 in
theorem book_Copy0  (w : World) :
    Calls Try.prog 47 #[.pointer none] w (Says (.pointer none) w) := by
  go_enter Try.func47, Try.ntmps47
  go_wp2
  go_ret
  exact ⟨rfl, (by (repeat' (first | (with_reducible exact Below.refl _ _) | (with_reducible refine Below.alloc ?_ ?_ _) | go_size)))⟩
theorem kind7 (kd : Int) : ∃ K : Nat, K < 7 ∧ wrap64 ((IntKind.u64.wrap kd).tmod 7) = (K : Int) ∧ IntKind.i64.wrap ((IntKind.u64.wrap kd).tmod 7) = (K : Int) := by
  have h1 : 0 ≤ IntKind.u64.wrap kd := by rw [IntKind.wrap_u64]; omega
  rw [Int.tmod_eq_emod_of_nonneg h1]
  refine ⟨(IntKind.u64.wrap kd % 7).toNat, by omega, ?_, ?_⟩
  · rw [IntWalk.wrap64_in _ (by omega)]; omega
  · rw [IntWalk.i64_in _ (by omega)]; omega
def wantN (K : Nat) : Int := [-1, 5, 5, 5, 0, 0, 0].getD K 0
set_option maxRecDepth 20000 in
set_option maxHeartbeats 6400000 in
theorem Do0 (kd kv : Int) (m : Nat) (hm : m < 18446744073709551616) (port vid : Int) (now old : Nat) (K : Nat) (hK : K < 7) (hk1 : wrap64 ((IntKind.u64.wrap kd).tmod 7) = (K : Int)) (hk2 : IntKind.i64.wrap ((IntKind.u64.wrap kd).tmod 7) = (K : Int)) (w : World) :
    Calls Try.prog 41 #[.pointer none, .agg #[.int .i64 kd, .int .i64 kv, .int .u64 (m : Int), .int .i64 port, .int .i64 vid, .int .u32 (now : Int), .int .u32 (old : Int)]] w (Says (.int .i64 (wantN K)) w) := by
  have HT := Lib.hid fun w => law8_To kv (m : Int) w
  rcases (show K = 0 ∨ K = 1 ∨ K = 2 ∨ K = 3 ∨ K = 4 ∨ K = 5 ∨ K = 6 by omega) with rfl | rfl | rfl | rfl | rfl | rfl | rfl
  · have HC := Lib.hid fun w => book_Lookup0 kv m hm w
    rw [show ((0 : Nat) : Int) = 0 from rfl] at hk1 hk2
    rw [show wantN 0 = -1 from rfl]
    clear hm hK
    go_enter Try.func41, Try.ntmps41
    go_wp2_with fail
    refine (HT.out _).mono ?_
    rintro e w1 ⟨rfl, hb⟩
    have HB1 : Hid (Below w.heap.size w w1) := Below.trans ((Below.refl _ _).alloc (Nat.le_refl _) _) (hb.mono (by simp))
    have hz1 : w.heap.size + 1 ≤ w1.heap.size := by have := hb.size; simpa using this
    have s0 : w1.cell? ⟨w.heap.size, 0, none⟩ = some (.int .i64 kd) := by rw [(bcell hb).1 _ _ (by simp)]; simp [go_sem]
    have s1 : w1.cell? ⟨w.heap.size, 1, none⟩ = some (.int .i64 kv) := by rw [(bcell hb).1 _ _ (by simp)]; simp [go_sem]
    have s2 : w1.cell? ⟨w.heap.size, 2, none⟩ = some (.int .u64 (m : Int)) := by rw [(bcell hb).1 _ _ (by simp)]; simp [go_sem]
    have s3 : w1.cell? ⟨w.heap.size, 3, none⟩ = some (.int .i64 port) := by rw [(bcell hb).1 _ _ (by simp)]; simp [go_sem]
    have s4 : w1.cell? ⟨w.heap.size, 4, none⟩ = some (.int .i64 vid) := by rw [(bcell hb).1 _ _ (by simp)]; simp [go_sem]
    have s5 : w1.cell? ⟨w.heap.size, 5, none⟩ = some (.int .u32 (now : Int)) := by rw [(bcell hb).1 _ _ (by simp)]; simp [go_sem]
    have s6 : w1.cell? ⟨w.heap.size, 6, none⟩ = some (.int .u32 (old : Int)) := by rw [(bcell hb).1 _ _ (by simp)]; simp [go_sem]
    have r0 : ∀ o, (w1.alloc o).cell? ⟨w.heap.size, 0, none⟩ = some (.int .i64 kd) := fun o => (World.cell?_alloc_lt _ _ _ (by show w.heap.size < _; omega)).trans s0
    have r1 : ∀ o, (w1.alloc o).cell? ⟨w.heap.size, 1, none⟩ = some (.int .i64 kv) := fun o => (World.cell?_alloc_lt _ _ _ (by show w.heap.size < _; omega)).trans s1
    have r2 : ∀ o, (w1.alloc o).cell? ⟨w.heap.size, 2, none⟩ = some (.int .u64 (m : Int)) := fun o => (World.cell?_alloc_lt _ _ _ (by show w.heap.size < _; omega)).trans s2
    have r3 : ∀ o, (w1.alloc o).cell? ⟨w.heap.size, 3, none⟩ = some (.int .i64 port) := fun o => (World.cell?_alloc_lt _ _ _ (by show w.heap.size < _; omega)).trans s3
    have r4 : ∀ o, (w1.alloc o).cell? ⟨w.heap.size, 4, none⟩ = some (.int .i64 vid) := fun o => (World.cell?_alloc_lt _ _ _ (by show w.heap.size < _; omega)).trans s4
    have r5 : ∀ o, (w1.alloc o).cell? ⟨w.heap.size, 5, none⟩ = some (.int .u32 (now : Int)) := fun o => (World.cell?_alloc_lt _ _ _ (by show w.heap.size < _; omega)).trans s5
    have r6 : ∀ o, (w1.alloc o).cell? ⟨w.heap.size, 6, none⟩ = some (.int .u32 (old : Int)) := fun o => (World.cell?_alloc_lt _ _ _ (by show w.heap.size < _; omega)).trans s6
    clear hb s0 s1 s2 s3 s4 s5 s6
    go_wp2_with fail
    refine (HC.out _).mono ?_
    rintro e w3 ⟨rfl, hb⟩
    have HB3 : Hid (Below w.heap.size w w3) := Below.trans (HB1.out.alloc (by omega) _) (hb.mono (by simp; omega))
    clear hb
    go_wp2
    go_ret
    exact ⟨by first | rfl | simp, HB3.out⟩
  · have HC := Lib.hid fun w => book_Learn0 kv m hm port (now : Int) w
    rw [show ((1 : Nat) : Int) = 1 from rfl] at hk1 hk2
    rw [show wantN 1 = 5 from rfl]
    clear hm hK
    go_enter Try.func41, Try.ntmps41
    go_wp2_with fail
    refine (HT.out _).mono ?_
    rintro e w1 ⟨rfl, hb⟩
    have HB1 : Hid (Below w.heap.size w w1) := Below.trans ((Below.refl _ _).alloc (Nat.le_refl _) _) (hb.mono (by simp))
    have hz1 : w.heap.size + 1 ≤ w1.heap.size := by have := hb.size; simpa using this
    have s0 : w1.cell? ⟨w.heap.size, 0, none⟩ = some (.int .i64 kd) := by rw [(bcell hb).1 _ _ (by simp)]; simp [go_sem]
    have s1 : w1.cell? ⟨w.heap.size, 1, none⟩ = some (.int .i64 kv) := by rw [(bcell hb).1 _ _ (by simp)]; simp [go_sem]
    have s2 : w1.cell? ⟨w.heap.size, 2, none⟩ = some (.int .u64 (m : Int)) := by rw [(bcell hb).1 _ _ (by simp)]; simp [go_sem]
    have s3 : w1.cell? ⟨w.heap.size, 3, none⟩ = some (.int .i64 port) := by rw [(bcell hb).1 _ _ (by simp)]; simp [go_sem]
    have s4 : w1.cell? ⟨w.heap.size, 4, none⟩ = some (.int .i64 vid) := by rw [(bcell hb).1 _ _ (by simp)]; simp [go_sem]
    have s5 : w1.cell? ⟨w.heap.size, 5, none⟩ = some (.int .u32 (now : Int)) := by rw [(bcell hb).1 _ _ (by simp)]; simp [go_sem]
    have s6 : w1.cell? ⟨w.heap.size, 6, none⟩ = some (.int .u32 (old : Int)) := by rw [(bcell hb).1 _ _ (by simp)]; simp [go_sem]
    have r0 : ∀ o, (w1.alloc o).cell? ⟨w.heap.size, 0, none⟩ = some (.int .i64 kd) := fun o => (World.cell?_alloc_lt _ _ _ (by show w.heap.size < _; omega)).trans s0
    have r1 : ∀ o, (w1.alloc o).cell? ⟨w.heap.size, 1, none⟩ = some (.int .i64 kv) := fun o => (World.cell?_alloc_lt _ _ _ (by show w.heap.size < _; omega)).trans s1
    have r2 : ∀ o, (w1.alloc o).cell? ⟨w.heap.size, 2, none⟩ = some (.int .u64 (m : Int)) := fun o => (World.cell?_alloc_lt _ _ _ (by show w.heap.size < _; omega)).trans s2
    have r3 : ∀ o, (w1.alloc o).cell? ⟨w.heap.size, 3, none⟩ = some (.int .i64 port) := fun o => (World.cell?_alloc_lt _ _ _ (by show w.heap.size < _; omega)).trans s3
    have r4 : ∀ o, (w1.alloc o).cell? ⟨w.heap.size, 4, none⟩ = some (.int .i64 vid) := fun o => (World.cell?_alloc_lt _ _ _ (by show w.heap.size < _; omega)).trans s4
    have r5 : ∀ o, (w1.alloc o).cell? ⟨w.heap.size, 5, none⟩ = some (.int .u32 (now : Int)) := fun o => (World.cell?_alloc_lt _ _ _ (by show w.heap.size < _; omega)).trans s5
    have r6 : ∀ o, (w1.alloc o).cell? ⟨w.heap.size, 6, none⟩ = some (.int .u32 (old : Int)) := fun o => (World.cell?_alloc_lt _ _ _ (by show w.heap.size < _; omega)).trans s6
    clear hb s0 s1 s2 s3 s4 s5 s6
    go_wp2_with fail
    refine (HC.out _).mono ?_
    rintro e w3 ⟨rfl, hb⟩
    have HB3 : Hid (Below w.heap.size w w3) := Below.trans (HB1.out.alloc (by omega) _) (hb.mono (by simp; omega))
    clear hb
    go_wp2
    go_ret
    exact ⟨by first | rfl | simp, HB3.out⟩
  · have HC := Lib.hid fun w => book_Learn0 kv m hm port (now : Int) w
    rw [show ((2 : Nat) : Int) = 2 from rfl] at hk1 hk2
    rw [show wantN 2 = 5 from rfl]
    clear hm hK
    go_enter Try.func41, Try.ntmps41
    go_wp2_with fail
    refine (HT.out _).mono ?_
    rintro e w1 ⟨rfl, hb⟩
    have HB1 : Hid (Below w.heap.size w w1) := Below.trans ((Below.refl _ _).alloc (Nat.le_refl _) _) (hb.mono (by simp))
    have hz1 : w.heap.size + 1 ≤ w1.heap.size := by have := hb.size; simpa using this
    have s0 : w1.cell? ⟨w.heap.size, 0, none⟩ = some (.int .i64 kd) := by rw [(bcell hb).1 _ _ (by simp)]; simp [go_sem]
    have s1 : w1.cell? ⟨w.heap.size, 1, none⟩ = some (.int .i64 kv) := by rw [(bcell hb).1 _ _ (by simp)]; simp [go_sem]
    have s2 : w1.cell? ⟨w.heap.size, 2, none⟩ = some (.int .u64 (m : Int)) := by rw [(bcell hb).1 _ _ (by simp)]; simp [go_sem]
    have s3 : w1.cell? ⟨w.heap.size, 3, none⟩ = some (.int .i64 port) := by rw [(bcell hb).1 _ _ (by simp)]; simp [go_sem]
    have s4 : w1.cell? ⟨w.heap.size, 4, none⟩ = some (.int .i64 vid) := by rw [(bcell hb).1 _ _ (by simp)]; simp [go_sem]
    have s5 : w1.cell? ⟨w.heap.size, 5, none⟩ = some (.int .u32 (now : Int)) := by rw [(bcell hb).1 _ _ (by simp)]; simp [go_sem]
    have s6 : w1.cell? ⟨w.heap.size, 6, none⟩ = some (.int .u32 (old : Int)) := by rw [(bcell hb).1 _ _ (by simp)]; simp [go_sem]
    have r0 : ∀ o, (w1.alloc o).cell? ⟨w.heap.size, 0, none⟩ = some (.int .i64 kd) := fun o => (World.cell?_alloc_lt _ _ _ (by show w.heap.size < _; omega)).trans s0
    have r1 : ∀ o, (w1.alloc o).cell? ⟨w.heap.size, 1, none⟩ = some (.int .i64 kv) := fun o => (World.cell?_alloc_lt _ _ _ (by show w.heap.size < _; omega)).trans s1
    have r2 : ∀ o, (w1.alloc o).cell? ⟨w.heap.size, 2, none⟩ = some (.int .u64 (m : Int)) := fun o => (World.cell?_alloc_lt _ _ _ (by show w.heap.size < _; omega)).trans s2
    have r3 : ∀ o, (w1.alloc o).cell? ⟨w.heap.size, 3, none⟩ = some (.int .i64 port) := fun o => (World.cell?_alloc_lt _ _ _ (by show w.heap.size < _; omega)).trans s3
    have r4 : ∀ o, (w1.alloc o).cell? ⟨w.heap.size, 4, none⟩ = some (.int .i64 vid) := fun o => (World.cell?_alloc_lt _ _ _ (by show w.heap.size < _; omega)).trans s4
    have r5 : ∀ o, (w1.alloc o).cell? ⟨w.heap.size, 5, none⟩ = some (.int .u32 (now : Int)) := fun o => (World.cell?_alloc_lt _ _ _ (by show w.heap.size < _; omega)).trans s5
    have r6 : ∀ o, (w1.alloc o).cell? ⟨w.heap.size, 6, none⟩ = some (.int .u32 (old : Int)) := fun o => (World.cell?_alloc_lt _ _ _ (by show w.heap.size < _; omega)).trans s6
    clear hb s0 s1 s2 s3 s4 s5 s6
    go_wp2_with fail
    refine (HC.out _).mono ?_
    rintro e w3 ⟨rfl, hb⟩
    have HB3 : Hid (Below w.heap.size w w3) := Below.trans (HB1.out.alloc (by omega) _) (hb.mono (by simp; omega))
    clear hb
    go_wp2
    go_ret
    exact ⟨by first | rfl | simp, HB3.out⟩
  · have HC := Lib.hid fun w => book_Order0 kv m hm port (now : Int) w
    rw [show ((3 : Nat) : Int) = 3 from rfl] at hk1 hk2
    rw [show wantN 3 = 5 from rfl]
    clear hm hK
    go_enter Try.func41, Try.ntmps41
    go_wp2_with fail
    refine (HT.out _).mono ?_
    rintro e w1 ⟨rfl, hb⟩
    have HB1 : Hid (Below w.heap.size w w1) := Below.trans ((Below.refl _ _).alloc (Nat.le_refl _) _) (hb.mono (by simp))
    have hz1 : w.heap.size + 1 ≤ w1.heap.size := by have := hb.size; simpa using this
    have s0 : w1.cell? ⟨w.heap.size, 0, none⟩ = some (.int .i64 kd) := by rw [(bcell hb).1 _ _ (by simp)]; simp [go_sem]
    have s1 : w1.cell? ⟨w.heap.size, 1, none⟩ = some (.int .i64 kv) := by rw [(bcell hb).1 _ _ (by simp)]; simp [go_sem]
    have s2 : w1.cell? ⟨w.heap.size, 2, none⟩ = some (.int .u64 (m : Int)) := by rw [(bcell hb).1 _ _ (by simp)]; simp [go_sem]
    have s3 : w1.cell? ⟨w.heap.size, 3, none⟩ = some (.int .i64 port) := by rw [(bcell hb).1 _ _ (by simp)]; simp [go_sem]
    have s4 : w1.cell? ⟨w.heap.size, 4, none⟩ = some (.int .i64 vid) := by rw [(bcell hb).1 _ _ (by simp)]; simp [go_sem]
    have s5 : w1.cell? ⟨w.heap.size, 5, none⟩ = some (.int .u32 (now : Int)) := by rw [(bcell hb).1 _ _ (by simp)]; simp [go_sem]
    have s6 : w1.cell? ⟨w.heap.size, 6, none⟩ = some (.int .u32 (old : Int)) := by rw [(bcell hb).1 _ _ (by simp)]; simp [go_sem]
    have r0 : ∀ o, (w1.alloc o).cell? ⟨w.heap.size, 0, none⟩ = some (.int .i64 kd) := fun o => (World.cell?_alloc_lt _ _ _ (by show w.heap.size < _; omega)).trans s0
    have r1 : ∀ o, (w1.alloc o).cell? ⟨w.heap.size, 1, none⟩ = some (.int .i64 kv) := fun o => (World.cell?_alloc_lt _ _ _ (by show w.heap.size < _; omega)).trans s1
    have r2 : ∀ o, (w1.alloc o).cell? ⟨w.heap.size, 2, none⟩ = some (.int .u64 (m : Int)) := fun o => (World.cell?_alloc_lt _ _ _ (by show w.heap.size < _; omega)).trans s2
    have r3 : ∀ o, (w1.alloc o).cell? ⟨w.heap.size, 3, none⟩ = some (.int .i64 port) := fun o => (World.cell?_alloc_lt _ _ _ (by show w.heap.size < _; omega)).trans s3
    have r4 : ∀ o, (w1.alloc o).cell? ⟨w.heap.size, 4, none⟩ = some (.int .i64 vid) := fun o => (World.cell?_alloc_lt _ _ _ (by show w.heap.size < _; omega)).trans s4
    have r5 : ∀ o, (w1.alloc o).cell? ⟨w.heap.size, 5, none⟩ = some (.int .u32 (now : Int)) := fun o => (World.cell?_alloc_lt _ _ _ (by show w.heap.size < _; omega)).trans s5
    have r6 : ∀ o, (w1.alloc o).cell? ⟨w.heap.size, 6, none⟩ = some (.int .u32 (old : Int)) := fun o => (World.cell?_alloc_lt _ _ _ (by show w.heap.size < _; omega)).trans s6
    clear hb s0 s1 s2 s3 s4 s5 s6
    go_wp2_with fail
    refine (HC.out _).mono ?_
    rintro e w3 ⟨rfl, hb⟩
    have HB3 : Hid (Below w.heap.size w w3) := Below.trans (HB1.out.alloc (by omega) _) (hb.mono (by simp; omega))
    clear hb
    go_wp2
    go_ret
    exact ⟨by first | rfl | simp, HB3.out⟩
  · have HC := Lib.hid fun w => book_Drop0 kv m hm w
    rw [show ((4 : Nat) : Int) = 4 from rfl] at hk1 hk2
    rw [show wantN 4 = 0 from rfl]
    clear hm hK
    go_enter Try.func41, Try.ntmps41
    go_wp2_with fail
    refine (HT.out _).mono ?_
    rintro e w1 ⟨rfl, hb⟩
    have HB1 : Hid (Below w.heap.size w w1) := Below.trans ((Below.refl _ _).alloc (Nat.le_refl _) _) (hb.mono (by simp))
    have hz1 : w.heap.size + 1 ≤ w1.heap.size := by have := hb.size; simpa using this
    have s0 : w1.cell? ⟨w.heap.size, 0, none⟩ = some (.int .i64 kd) := by rw [(bcell hb).1 _ _ (by simp)]; simp [go_sem]
    have s1 : w1.cell? ⟨w.heap.size, 1, none⟩ = some (.int .i64 kv) := by rw [(bcell hb).1 _ _ (by simp)]; simp [go_sem]
    have s2 : w1.cell? ⟨w.heap.size, 2, none⟩ = some (.int .u64 (m : Int)) := by rw [(bcell hb).1 _ _ (by simp)]; simp [go_sem]
    have s3 : w1.cell? ⟨w.heap.size, 3, none⟩ = some (.int .i64 port) := by rw [(bcell hb).1 _ _ (by simp)]; simp [go_sem]
    have s4 : w1.cell? ⟨w.heap.size, 4, none⟩ = some (.int .i64 vid) := by rw [(bcell hb).1 _ _ (by simp)]; simp [go_sem]
    have s5 : w1.cell? ⟨w.heap.size, 5, none⟩ = some (.int .u32 (now : Int)) := by rw [(bcell hb).1 _ _ (by simp)]; simp [go_sem]
    have s6 : w1.cell? ⟨w.heap.size, 6, none⟩ = some (.int .u32 (old : Int)) := by rw [(bcell hb).1 _ _ (by simp)]; simp [go_sem]
    have r0 : ∀ o, (w1.alloc o).cell? ⟨w.heap.size, 0, none⟩ = some (.int .i64 kd) := fun o => (World.cell?_alloc_lt _ _ _ (by show w.heap.size < _; omega)).trans s0
    have r1 : ∀ o, (w1.alloc o).cell? ⟨w.heap.size, 1, none⟩ = some (.int .i64 kv) := fun o => (World.cell?_alloc_lt _ _ _ (by show w.heap.size < _; omega)).trans s1
    have r2 : ∀ o, (w1.alloc o).cell? ⟨w.heap.size, 2, none⟩ = some (.int .u64 (m : Int)) := fun o => (World.cell?_alloc_lt _ _ _ (by show w.heap.size < _; omega)).trans s2
    have r3 : ∀ o, (w1.alloc o).cell? ⟨w.heap.size, 3, none⟩ = some (.int .i64 port) := fun o => (World.cell?_alloc_lt _ _ _ (by show w.heap.size < _; omega)).trans s3
    have r4 : ∀ o, (w1.alloc o).cell? ⟨w.heap.size, 4, none⟩ = some (.int .i64 vid) := fun o => (World.cell?_alloc_lt _ _ _ (by show w.heap.size < _; omega)).trans s4
    have r5 : ∀ o, (w1.alloc o).cell? ⟨w.heap.size, 5, none⟩ = some (.int .u32 (now : Int)) := fun o => (World.cell?_alloc_lt _ _ _ (by show w.heap.size < _; omega)).trans s5
    have r6 : ∀ o, (w1.alloc o).cell? ⟨w.heap.size, 6, none⟩ = some (.int .u32 (old : Int)) := fun o => (World.cell?_alloc_lt _ _ _ (by show w.heap.size < _; omega)).trans s6
    clear hb s0 s1 s2 s3 s4 s5 s6
    go_wp2_with fail
    refine (HC.out _).mono ?_
    rintro e w3 ⟨rfl, hb⟩
    have HB3 : Hid (Below w.heap.size w w3) := Below.trans (HB1.out.alloc (by omega) _) (hb.mono (by simp; omega))
    clear hb
    go_wp2
    go_ret
    exact ⟨by first | rfl | simp, HB3.out⟩
  · have HC := Lib.hid fun w => book_Age0 port vid (now : Int) (old : Int) w
    rw [show ((5 : Nat) : Int) = 5 from rfl] at hk1 hk2
    rw [show wantN 5 = 0 from rfl]
    clear hm hK
    go_enter Try.func41, Try.ntmps41
    go_wp2_with fail
    refine (HT.out _).mono ?_
    rintro e w1 ⟨rfl, hb⟩
    have HB1 : Hid (Below w.heap.size w w1) := Below.trans ((Below.refl _ _).alloc (Nat.le_refl _) _) (hb.mono (by simp))
    have hz1 : w.heap.size + 1 ≤ w1.heap.size := by have := hb.size; simpa using this
    have s0 : w1.cell? ⟨w.heap.size, 0, none⟩ = some (.int .i64 kd) := by rw [(bcell hb).1 _ _ (by simp)]; simp [go_sem]
    have s1 : w1.cell? ⟨w.heap.size, 1, none⟩ = some (.int .i64 kv) := by rw [(bcell hb).1 _ _ (by simp)]; simp [go_sem]
    have s2 : w1.cell? ⟨w.heap.size, 2, none⟩ = some (.int .u64 (m : Int)) := by rw [(bcell hb).1 _ _ (by simp)]; simp [go_sem]
    have s3 : w1.cell? ⟨w.heap.size, 3, none⟩ = some (.int .i64 port) := by rw [(bcell hb).1 _ _ (by simp)]; simp [go_sem]
    have s4 : w1.cell? ⟨w.heap.size, 4, none⟩ = some (.int .i64 vid) := by rw [(bcell hb).1 _ _ (by simp)]; simp [go_sem]
    have s5 : w1.cell? ⟨w.heap.size, 5, none⟩ = some (.int .u32 (now : Int)) := by rw [(bcell hb).1 _ _ (by simp)]; simp [go_sem]
    have s6 : w1.cell? ⟨w.heap.size, 6, none⟩ = some (.int .u32 (old : Int)) := by rw [(bcell hb).1 _ _ (by simp)]; simp [go_sem]
    have r0 : ∀ o, (w1.alloc o).cell? ⟨w.heap.size, 0, none⟩ = some (.int .i64 kd) := fun o => (World.cell?_alloc_lt _ _ _ (by show w.heap.size < _; omega)).trans s0
    have r1 : ∀ o, (w1.alloc o).cell? ⟨w.heap.size, 1, none⟩ = some (.int .i64 kv) := fun o => (World.cell?_alloc_lt _ _ _ (by show w.heap.size < _; omega)).trans s1
    have r2 : ∀ o, (w1.alloc o).cell? ⟨w.heap.size, 2, none⟩ = some (.int .u64 (m : Int)) := fun o => (World.cell?_alloc_lt _ _ _ (by show w.heap.size < _; omega)).trans s2
    have r3 : ∀ o, (w1.alloc o).cell? ⟨w.heap.size, 3, none⟩ = some (.int .i64 port) := fun o => (World.cell?_alloc_lt _ _ _ (by show w.heap.size < _; omega)).trans s3
    have r4 : ∀ o, (w1.alloc o).cell? ⟨w.heap.size, 4, none⟩ = some (.int .i64 vid) := fun o => (World.cell?_alloc_lt _ _ _ (by show w.heap.size < _; omega)).trans s4
    have r5 : ∀ o, (w1.alloc o).cell? ⟨w.heap.size, 5, none⟩ = some (.int .u32 (now : Int)) := fun o => (World.cell?_alloc_lt _ _ _ (by show w.heap.size < _; omega)).trans s5
    have r6 : ∀ o, (w1.alloc o).cell? ⟨w.heap.size, 6, none⟩ = some (.int .u32 (old : Int)) := fun o => (World.cell?_alloc_lt _ _ _ (by show w.heap.size < _; omega)).trans s6
    clear hb s0 s1 s2 s3 s4 s5 s6
    go_wp2_with fail
    refine (HC.out _).mono ?_
    rintro e w3 ⟨rfl, hb⟩
    have HB3 : Hid (Below w.heap.size w w3) := Below.trans (HB1.out.alloc (by omega) _) (hb.mono (by simp; omega))
    clear hb
    go_wp2
    go_ret
    exact ⟨by first | rfl | simp, HB3.out⟩
  · have HC := Lib.hid fun w => book_Flush0 port vid w
    rw [show ((6 : Nat) : Int) = 6 from rfl] at hk1 hk2
    rw [show wantN 6 = 0 from rfl]
    clear hm hK
    go_enter Try.func41, Try.ntmps41
    go_wp2_with fail
    refine (HT.out _).mono ?_
    rintro e w1 ⟨rfl, hb⟩
    have HB1 : Hid (Below w.heap.size w w1) := Below.trans ((Below.refl _ _).alloc (Nat.le_refl _) _) (hb.mono (by simp))
    have hz1 : w.heap.size + 1 ≤ w1.heap.size := by have := hb.size; simpa using this
    have s0 : w1.cell? ⟨w.heap.size, 0, none⟩ = some (.int .i64 kd) := by rw [(bcell hb).1 _ _ (by simp)]; simp [go_sem]
    have s1 : w1.cell? ⟨w.heap.size, 1, none⟩ = some (.int .i64 kv) := by rw [(bcell hb).1 _ _ (by simp)]; simp [go_sem]
    have s2 : w1.cell? ⟨w.heap.size, 2, none⟩ = some (.int .u64 (m : Int)) := by rw [(bcell hb).1 _ _ (by simp)]; simp [go_sem]
    have s3 : w1.cell? ⟨w.heap.size, 3, none⟩ = some (.int .i64 port) := by rw [(bcell hb).1 _ _ (by simp)]; simp [go_sem]
    have s4 : w1.cell? ⟨w.heap.size, 4, none⟩ = some (.int .i64 vid) := by rw [(bcell hb).1 _ _ (by simp)]; simp [go_sem]
    have s5 : w1.cell? ⟨w.heap.size, 5, none⟩ = some (.int .u32 (now : Int)) := by rw [(bcell hb).1 _ _ (by simp)]; simp [go_sem]
    have s6 : w1.cell? ⟨w.heap.size, 6, none⟩ = some (.int .u32 (old : Int)) := by rw [(bcell hb).1 _ _ (by simp)]; simp [go_sem]
    have r0 : ∀ o, (w1.alloc o).cell? ⟨w.heap.size, 0, none⟩ = some (.int .i64 kd) := fun o => (World.cell?_alloc_lt _ _ _ (by show w.heap.size < _; omega)).trans s0
    have r1 : ∀ o, (w1.alloc o).cell? ⟨w.heap.size, 1, none⟩ = some (.int .i64 kv) := fun o => (World.cell?_alloc_lt _ _ _ (by show w.heap.size < _; omega)).trans s1
    have r2 : ∀ o, (w1.alloc o).cell? ⟨w.heap.size, 2, none⟩ = some (.int .u64 (m : Int)) := fun o => (World.cell?_alloc_lt _ _ _ (by show w.heap.size < _; omega)).trans s2
    have r3 : ∀ o, (w1.alloc o).cell? ⟨w.heap.size, 3, none⟩ = some (.int .i64 port) := fun o => (World.cell?_alloc_lt _ _ _ (by show w.heap.size < _; omega)).trans s3
    have r4 : ∀ o, (w1.alloc o).cell? ⟨w.heap.size, 4, none⟩ = some (.int .i64 vid) := fun o => (World.cell?_alloc_lt _ _ _ (by show w.heap.size < _; omega)).trans s4
    have r5 : ∀ o, (w1.alloc o).cell? ⟨w.heap.size, 5, none⟩ = some (.int .u32 (now : Int)) := fun o => (World.cell?_alloc_lt _ _ _ (by show w.heap.size < _; omega)).trans s5
    have r6 : ∀ o, (w1.alloc o).cell? ⟨w.heap.size, 6, none⟩ = some (.int .u32 (old : Int)) := fun o => (World.cell?_alloc_lt _ _ _ (by show w.heap.size < _; omega)).trans s6
    clear hb s0 s1 s2 s3 s4 s5 s6
    go_wp2_with fail
    refine (HC.out _).mono ?_
    rintro e w3 ⟨rfl, hb⟩
    have HB3 : Hid (Below w.heap.size w w3) := Below.trans (HB1.out.alloc (by omega) _) (hb.mono (by simp; omega))
    clear hb
    go_wp2
    go_ret
    exact ⟨by first | rfl | simp, HB3.out⟩
set_option maxHeartbeats 800000 in
theorem law11_To (a b c : Int) (w : World) :
    Calls Try.prog 37 #[.agg #[.int .i64 a, .int .i64 b, .int .i64 c]] w (Says (.agg #[.int .i64 a, .int .i64 b, .int .i64 c]) w) := by
  go_enter Try.func37, Try.ntmps37
  go_wp2
  exact bodyPost_ret (v := .agg #[.int .i64 a, .int .i64 b, .int .i64 c]) (by simp [results, Try.results37, go_sem]) rfl ⟨rfl, (by (repeat' (first | (with_reducible exact Below.refl _ _) | (with_reducible refine Below.setCell ?_ ?_ _) | (with_reducible refine Below.alloc ?_ ?_ _) | go_size)))⟩
set_option maxHeartbeats 6400000 in
theorem ref11_Right (a b c : Int) (w : World) :
    Calls Try.prog 50 #[.agg #[.int .i64 a, .int .i64 b, .int .i64 c]] w (Says (.bool (rightS a b c)) w) := by
  unfold rightS inB
  by_cases h1 : 1 ≤ a
  · have d1 : decide (1 ≤ a) = true := by simpa using h1
    by_cases h2 : a ≤ 8
    · have d2 : decide (a ≤ 8) = true := by simpa using h2
      by_cases h3 : 1 ≤ b
      · have d3 : decide (1 ≤ b) = true := by simpa using h3
        by_cases h4 : b ≤ 16
        · have d4 : decide (b ≤ 16) = true := by simpa using h4
          by_cases h5 : 1 ≤ c
          · have d5 : decide (1 ≤ c) = true := by simpa using h5
            by_cases h6 : c ≤ 8
            · have d6 : decide (c ≤ 8) = true := by simpa using h6
              rw [d1, d2, d3, d4, d5, d6]
              clear d1 d2 d3 d4 d5 d6
              go_enter Try.func50, Try.ntmps50
              go_wp2
              go_ret
              exact ⟨by simp, (Below.refl _ _).alloc (Nat.le_refl _) _⟩
            · have d6 : decide (c ≤ 8) = false := by simpa using h6
              rw [d1, d2, d3, d4, d5, d6]
              clear d1 d2 d3 d4 d5 d6
              go_enter Try.func50, Try.ntmps50
              go_wp2
              go_ret
              exact ⟨by simp, (Below.refl _ _).alloc (Nat.le_refl _) _⟩
          · have d5 : decide (1 ≤ c) = false := by simpa using h5
            rw [d1, d2, d3, d4, d5]
            clear d1 d2 d3 d4 d5
            go_enter Try.func50, Try.ntmps50
            go_wp2
            go_ret
            exact ⟨by simp, (Below.refl _ _).alloc (Nat.le_refl _) _⟩
        · have d4 : decide (b ≤ 16) = false := by simpa using h4
          rw [d1, d2, d3, d4]
          clear d1 d2 d3 d4
          go_enter Try.func50, Try.ntmps50
          go_wp2
          go_ret
          exact ⟨by simp, (Below.refl _ _).alloc (Nat.le_refl _) _⟩
      · have d3 : decide (1 ≤ b) = false := by simpa using h3
        rw [d1, d2, d3]
        clear d1 d2 d3
        go_enter Try.func50, Try.ntmps50
        go_wp2
        go_ret
        exact ⟨by simp, (Below.refl _ _).alloc (Nat.le_refl _) _⟩
    · have d2 : decide (a ≤ 8) = false := by simpa using h2
      rw [d1, d2]
      clear d1 d2
      go_enter Try.func50, Try.ntmps50
      go_wp2
      go_ret
      exact ⟨by simp, (Below.refl _ _).alloc (Nat.le_refl _) _⟩
  · have d1 : decide (1 ≤ a) = false := by simpa using h1
    rw [d1]
    clear d1
    go_enter Try.func50, Try.ntmps50
    go_wp2
    go_ret
    exact ⟨by simp, (Below.refl _ _).alloc (Nat.le_refl _) _⟩
end Go.Proofs.Ytccnfcjaehcfkaa
