/-
  A model that is none: what its calls answer. No statement is proved here.
-/
import Derived.Test.YtcnfilbmmlolmaaMzA
import Derived.Lib.Hide
set_option linter.unusedVariables false
namespace Go.Proofs.Ytcnfilbmmlolmaa
open Go.RowKit

theorem model_isNone0 (w : World) : Calls Try.prog 43 #[.pointer none] w (Says (.bool true) w) := by
  go_enter Try.func43, Try.ntmps43
  go_wp2
  go_ret
  exact ⟨rfl, Below.refl _ _⟩
theorem model_isPort0 (p : Int) (w : World) : Calls Try.prog 62 #[.pointer none, .int .i64 p] w (Says (.bool false) w) := by
  have H := Lib.hid fun W => model_isNone0 W
  go_enter Try.func62, Try.ntmps62
  go_wp2_with fail
  refine (H.out _).mono ?_
  rintro e w1 ⟨rfl, hb⟩
  go_wp2
  go_ret
  exact ⟨rfl, hb⟩
/-- An order as a value: its fourteen parts. -/
def opV (kd po tt vi st kv : Int) (km : Int) (me un : Int) (nw li : Int) (sh bu id : Int) : Value := .agg #[.int .i64 kd, .int .i64 po, .int .i64 tt, .int .i64 vi, .int .i64 st, .int .i64 kv, .int .u64 km, .int .u64 me, .int .u64 un, .int .u32 nw, .int .u32 li, .int .i64 sh, .int .i64 bu, .int .i64 id]
set_option maxRecDepth 20000 in
theorem model_Do0 (kd po tt vi st kv km me un nw li sh bu id : Int) (w : World) : Calls Try.prog 14 #[.pointer none, opV kd po tt vi st kv km me un nw li sh bu id] w (Says (.int .i64 (-1)) w) := by
  have H := Lib.hid fun W => model_isNone0 W
  unfold opV
  go_enter Try.func14, Try.ntmps14
  go_wp2_with fail
  refine (H.out _).mono ?_
  rintro e w1 ⟨rfl, hb⟩
  go_wp2
  go_ret
  exact ⟨rfl, ((Below.refl _ _).alloc (Nat.le_refl _) _).trans (hb.mono (by simp))⟩
theorem model_Copy0 (w : World) : Calls Try.prog 15 #[.pointer none] w (Says (.pointer none) w) := by
  have H := Lib.hid fun W => model_isNone0 W
  go_enter Try.func15, Try.ntmps15
  go_wp2_with fail
  refine (H.out _).mono ?_
  rintro e w1 ⟨rfl, hb⟩
  go_wp2
  go_ret
  exact ⟨rfl, hb⟩
theorem model_Vlans0 (w : World) : Calls Try.prog 16 #[.pointer none] w (Says (.slice none 0 0) w) := by
  have H := Lib.hid fun W => model_isNone0 W
  go_enter Try.func16, Try.ntmps16
  go_wp2_with fail
  refine (H.out _).mono ?_
  rintro e w1 ⟨rfl, hb⟩
  go_wp2
  go_ret
  exact ⟨rfl, hb⟩
theorem model_List0 (w : World) : Calls Try.prog 17 #[.pointer none] w (Says (.slice none 0 0) w) := by
  have H := Lib.hid fun W => model_isNone0 W
  go_enter Try.func17, Try.ntmps17
  go_wp2_with fail
  refine (H.out _).mono ?_
  rintro e w1 ⟨rfl, hb⟩
  go_wp2
  go_ret
  exact ⟨rfl, hb⟩
theorem model_Bucket0 (s n : Int) (w : World) : Calls Try.prog 19 #[.pointer none, .int .i64 s, .int .i64 n] w (Says (.slice none 0 0) w) := by
  have H := Lib.hid fun W => model_isNone0 W
  go_enter Try.func19, Try.ntmps19
  go_wp2_with fail
  refine (H.out _).mono ?_
  rintro e w1 ⟨rfl, hb⟩
  go_wp2
  go_ret
  exact ⟨rfl, hb⟩
theorem model_Queue0 (p q : Int) (w : World) : Calls Try.prog 18 #[.pointer none, .int .i64 p, .int .i64 q] w (Says (.slice none 0 0) w) := by
  have H := Lib.hid fun W => model_isPort0 p W
  go_enter Try.func18, Try.ntmps18
  go_wp2_with fail
  refine (H.out _).mono ?_
  rintro e w1 ⟨rfl, hb⟩
  go_wp2
  go_ret
  exact ⟨rfl, hb⟩
theorem model_Stand0 (p : Int) (w : World) : Calls Try.prog 21 #[.pointer none, .int .i64 p] w (Says (.agg #[.int .i64 0, .int .u32 0]) w) := by
  have H := Lib.hid fun W => model_isPort0 p W
  go_enter Try.func21, Try.ntmps21
  go_wp2_with fail
  refine (H.out _).mono ?_
  rintro e w1 ⟨rfl, hb⟩
  have k0 : w1.cell? ⟨w.heap.size, 0, none⟩ = some (.int .i64 0) := (hb.cell (p := ⟨w.heap.size, 0, none⟩) (by simp)).trans (by simp [go_sem])
  have f0 : w1.frozen? ⟨w.heap.size, 0, none⟩ = false := (hb.frozen (p := ⟨w.heap.size, 0, none⟩) (by simp)).trans (by simp [go_sem])
  have k1 : w1.cell? ⟨w.heap.size, 1, none⟩ = some (.int .u32 0) := (hb.cell (p := ⟨w.heap.size, 1, none⟩) (by simp)).trans (by simp [go_sem])
  have f1 : w1.frozen? ⟨w.heap.size, 1, none⟩ = false := (hb.frozen (p := ⟨w.heap.size, 1, none⟩) (by simp)).trans (by simp [go_sem])
  have hz : w.heap.size < w1.heap.size := by have := hb.size; simp at this; omega
  have hbl : Below w.heap.size w w1 := ((Below.refl _ _).alloc (Nat.le_refl _) _).trans (hb.mono (by simp))
  clear hb
  go_wp2
  exact bodyPost_ret (v := .agg #[.int .i64 0, .int .u32 0]) (by simp [results, Try.results21, go_sem, k0, k1]) rfl ⟨rfl, (by (repeat' (first | (with_reducible exact Below.refl _ _) | (with_reducible assumption) | (with_reducible refine Below.setCell ?_ ?_ _) | (with_reducible refine Below.alloc ?_ ?_ _) | go_size)))⟩
theorem model_Shape0 (w : World) : Calls Try.prog 20 #[.pointer none] w (Says (.agg #[.slice none 0 0, .slice none 0 0, .slice none 0 0, .slice none 0 0]) w) := by
  have H := Lib.hid fun W => model_isNone0 W
  go_enter Try.func20, Try.ntmps20
  go_wp2_with fail
  refine (H.out _).mono ?_
  rintro e w1 ⟨rfl, hb⟩
  have k0 : w1.cell? ⟨w.heap.size, 0, none⟩ = some (.slice none 0 0) := (hb.cell (p := ⟨w.heap.size, 0, none⟩) (by simp)).trans (by simp [go_sem])
  have f0 : w1.frozen? ⟨w.heap.size, 0, none⟩ = false := (hb.frozen (p := ⟨w.heap.size, 0, none⟩) (by simp)).trans (by simp [go_sem])
  have k1 : w1.cell? ⟨w.heap.size, 1, none⟩ = some (.slice none 0 0) := (hb.cell (p := ⟨w.heap.size, 1, none⟩) (by simp)).trans (by simp [go_sem])
  have f1 : w1.frozen? ⟨w.heap.size, 1, none⟩ = false := (hb.frozen (p := ⟨w.heap.size, 1, none⟩) (by simp)).trans (by simp [go_sem])
  have k2 : w1.cell? ⟨w.heap.size, 2, none⟩ = some (.slice none 0 0) := (hb.cell (p := ⟨w.heap.size, 2, none⟩) (by simp)).trans (by simp [go_sem])
  have f2 : w1.frozen? ⟨w.heap.size, 2, none⟩ = false := (hb.frozen (p := ⟨w.heap.size, 2, none⟩) (by simp)).trans (by simp [go_sem])
  have k3 : w1.cell? ⟨w.heap.size, 3, none⟩ = some (.slice none 0 0) := (hb.cell (p := ⟨w.heap.size, 3, none⟩) (by simp)).trans (by simp [go_sem])
  have f3 : w1.frozen? ⟨w.heap.size, 3, none⟩ = false := (hb.frozen (p := ⟨w.heap.size, 3, none⟩) (by simp)).trans (by simp [go_sem])
  have hz : w.heap.size < w1.heap.size := by have := hb.size; simp at this; omega
  have hbl : Below w.heap.size w w1 := ((Below.refl _ _).alloc (Nat.le_refl _) _).trans (hb.mono (by simp))
  clear hb
  go_wp2
  exact bodyPost_ret (v := .agg #[.slice none 0 0, .slice none 0 0, .slice none 0 0, .slice none 0 0]) (by simp [results, Try.results20, go_sem, k0, k1, k2, k3]) rfl ⟨rfl, (by (repeat' (first | (with_reducible exact Below.refl _ _) | (with_reducible assumption) | (with_reducible refine Below.setCell ?_ ?_ _) | (with_reducible refine Below.alloc ?_ ?_ _) | go_size)))⟩
end Go.Proofs.Ytcnfilbmmlolmaa
