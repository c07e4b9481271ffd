/-
  The document's Write. No statement is proved here.
-/
import Derived.Test.YthamjkccljhhcaaFrameY
import Derived.Test.YthamjkccljhhcaaKit2
import Derived.Deep.RegionHeld3
set_option linter.unusedVariables false
namespace Go.Proofs.Ythamjkccljhhcaa
open Go.RowKit

theorem WritesTo.bad {f : Fr} {w w' : World} {E : Nat} (he : wErr f = E) (h0 : E ≠ 0) (hb : Below w.heap.size w w') : WritesTo f w (.returned (.tuple #[.slice none 0 0, .int .i64 (E : Int)])) w' := by
  have ho : wR f = [] := by unfold wR; rw [if_neg (by omega)]
  refine ⟨none, 0, ?_, ?_, hb⟩
  · rw [ho, he]; rfl
  · rw [ho]; exact World.ownsRow_nil _ _ _ _
theorem low_in {m : Nat} (h : m < 281474976710656) (W : World) : Calls Try.prog 60 #[.int .u64 (m : Int)] W fun e w' => e = .returned (.int .u64 (m : Int)) ∧ W = w' := by
  have := ref_Low m W
  rw [Nat.mod_eq_of_lt h] at this
  exact this
theorem low_out {m : Nat} (h : ¬ m < 281474976710656) : ∃ q : Nat, ((m : Int) != (q : Int)) = true ∧ ∀ W, Calls Try.prog 60 #[.int .u64 (m : Int)] W fun e w' => e = .returned (.int .u64 (q : Int)) ∧ W = w' :=
  ⟨m % 281474976710656, by have := Nat.mod_lt m (show 0 < 281474976710656 by omega); rw [bne_iff_ne]; omega, fun W => ref_Low m W⟩

set_option maxRecDepth 100000 in
set_option maxHeartbeats 3200000 in
theorem ref_Write_A_true (d s c y : Nat) (l : List Nat) {A : Option Addr} {k p : Nat} (hk : l.length = k) (hk2 : k ≤ 1600) (w : World) (hd : ¬ d < 281474976710656) (he : wErr ⟨d, s, true, c, y, l⟩ = 1) :
    Calls Try.prog 23 #[.agg #[.int .u64 (d : Int), .int .u64 (s : Int), .bool true, .int .u16 (c : Int), .int .u16 (y : Int), .slice A k p]] w (WritesTo ⟨d, s, true, c, y, l⟩ w) := by
  have HE := Lib.hid he
  have HBX := Lib.hid (fun o n => below_drewN ((Below.refl w.heap.size w).alloc (Nat.le_refl _) o) n)
  have HBY := Lib.hid (fun o => ((Below.refl w.heap.size w).alloc (Nat.le_refl _) o))
  clear he
  obtain ⟨q, q1, hq⟩ := low_out hd
  have L1 := Lib.hid hq
  clear hd hq
  go_enter Try.func23, Try.ntmps23
  go_wp2_with fail
  go_quiet (first | (go_at_call 60; with_reducible exact still0 L1.out _ _) | (go_at_call 60; with_reducible exact still1 L1.out _ _ _))
  go_wp2
  go_ret2
  exact WritesTo.bad (E := 1) HE.out (by decide) (by first | exact HBX.out _ _ | exact HBY.out _)

set_option maxRecDepth 100000 in
set_option maxHeartbeats 3200000 in
theorem ref_Write_B_true (d s c y : Nat) (l : List Nat) {A : Option Addr} {k p : Nat} (hk : l.length = k) (hk2 : k ≤ 1600) (w : World) (hd : d < 281474976710656) (hs : ¬ s < 281474976710656) (he : wErr ⟨d, s, true, c, y, l⟩ = 1) :
    Calls Try.prog 23 #[.agg #[.int .u64 (d : Int), .int .u64 (s : Int), .bool true, .int .u16 (c : Int), .int .u16 (y : Int), .slice A k p]] w (WritesTo ⟨d, s, true, c, y, l⟩ w) := by
  have HE := Lib.hid he
  have HBX := Lib.hid (fun o n => below_drewN ((Below.refl w.heap.size w).alloc (Nat.le_refl _) o) n)
  have HBY := Lib.hid (fun o => ((Below.refl w.heap.size w).alloc (Nat.le_refl _) o))
  clear he
  have L1 := Lib.hid fun W => low_in hd W
  have q1 : ((d : Int) != (d : Int)) = false := by simp
  obtain ⟨q, q2, hq⟩ := low_out hs
  have L2 := Lib.hid hq
  clear hd hs hq
  go_enter Try.func23, Try.ntmps23
  go_wp2_with fail
  go_quiet (first | (go_at_call 60; with_reducible exact still0 L1.out _ _) | (go_at_call 60; with_reducible exact still1 L1.out _ _ _) | (go_at_call 60; with_reducible exact still0 L2.out _ _) | (go_at_call 60; with_reducible exact still1 L2.out _ _ _))
  go_wp2
  go_ret2
  exact WritesTo.bad (E := 1) HE.out (by decide) (by first | exact HBX.out _ _ | exact HBY.out _)

set_option maxRecDepth 100000 in
set_option maxHeartbeats 3200000 in
theorem ref_Write_A_false (d s c y : Nat) (l : List Nat) {A : Option Addr} {k p : Nat} (hk : l.length = k) (hk2 : k ≤ 1600) (w : World) (hd : ¬ d < 281474976710656) (he : wErr ⟨d, s, false, c, y, l⟩ = 1) :
    Calls Try.prog 23 #[.agg #[.int .u64 (d : Int), .int .u64 (s : Int), .bool false, .int .u16 (c : Int), .int .u16 (y : Int), .slice A k p]] w (WritesTo ⟨d, s, false, c, y, l⟩ w) := by
  have HE := Lib.hid he
  have HBX := Lib.hid (fun o n => below_drewN ((Below.refl w.heap.size w).alloc (Nat.le_refl _) o) n)
  have HBY := Lib.hid (fun o => ((Below.refl w.heap.size w).alloc (Nat.le_refl _) o))
  clear he
  obtain ⟨q, q1, hq⟩ := low_out hd
  have L1 := Lib.hid hq
  clear hd hq
  go_enter Try.func23, Try.ntmps23
  go_wp2_with fail
  go_quiet (first | (go_at_call 60; with_reducible exact still0 L1.out _ _) | (go_at_call 60; with_reducible exact still1 L1.out _ _ _))
  go_wp2
  go_ret2
  exact WritesTo.bad (E := 1) HE.out (by decide) (by first | exact HBX.out _ _ | exact HBY.out _)

set_option maxRecDepth 100000 in
set_option maxHeartbeats 3200000 in
theorem ref_Write_B_false (d s c y : Nat) (l : List Nat) {A : Option Addr} {k p : Nat} (hk : l.length = k) (hk2 : k ≤ 1600) (w : World) (hd : d < 281474976710656) (hs : ¬ s < 281474976710656) (he : wErr ⟨d, s, false, c, y, l⟩ = 1) :
    Calls Try.prog 23 #[.agg #[.int .u64 (d : Int), .int .u64 (s : Int), .bool false, .int .u16 (c : Int), .int .u16 (y : Int), .slice A k p]] w (WritesTo ⟨d, s, false, c, y, l⟩ w) := by
  have HE := Lib.hid he
  have HBX := Lib.hid (fun o n => below_drewN ((Below.refl w.heap.size w).alloc (Nat.le_refl _) o) n)
  have HBY := Lib.hid (fun o => ((Below.refl w.heap.size w).alloc (Nat.le_refl _) o))
  clear he
  have L1 := Lib.hid fun W => low_in hd W
  have q1 : ((d : Int) != (d : Int)) = false := by simp
  obtain ⟨q, q2, hq⟩ := low_out hs
  have L2 := Lib.hid hq
  clear hd hs hq
  go_enter Try.func23, Try.ntmps23
  go_wp2_with fail
  go_quiet (first | (go_at_call 60; with_reducible exact still0 L1.out _ _) | (go_at_call 60; with_reducible exact still1 L1.out _ _ _) | (go_at_call 60; with_reducible exact still0 L2.out _ _) | (go_at_call 60; with_reducible exact still1 L2.out _ _ _))
  go_wp2
  go_ret2
  exact WritesTo.bad (E := 1) HE.out (by decide) (by first | exact HBX.out _ _ | exact HBY.out _)

set_option maxRecDepth 100000 in
set_option maxHeartbeats 3200000 in
theorem ref_Write_C (d s c y : Nat) (l : List Nat) {A : Option Addr} {k p : Nat} (hk : l.length = k) (hk2 : k ≤ 1600) (w : World) (hd : d < 281474976710656) (hs : s < 281474976710656) (hc : c ≠ 0) (he : wErr ⟨d, s, false, c, y, l⟩ = 1) :
    Calls Try.prog 23 #[.agg #[.int .u64 (d : Int), .int .u64 (s : Int), .bool false, .int .u16 (c : Int), .int .u16 (y : Int), .slice A k p]] w (WritesTo ⟨d, s, false, c, y, l⟩ w) := by
  have HE := Lib.hid he
  have HBX := Lib.hid (fun o n => below_drewN ((Below.refl w.heap.size w).alloc (Nat.le_refl _) o) n)
  have HBY := Lib.hid (fun o => ((Below.refl w.heap.size w).alloc (Nat.le_refl _) o))
  clear he
  have L1 := Lib.hid fun W => low_in hd W
  have q1 : ((d : Int) != (d : Int)) = false := by simp
  have L2 := Lib.hid fun W => low_in hs W
  have q2 : ((s : Int) != (s : Int)) = false := by simp
  have q3 : ((c : Int) != 0) = true := by simp; omega
  clear hd hs hc
  go_enter Try.func23, Try.ntmps23
  go_wp2_with fail
  go_quiet (first | (go_at_call 60; with_reducible exact still0 L1.out _ _) | (go_at_call 60; with_reducible exact still1 L1.out _ _ _) | (go_at_call 60; with_reducible exact still0 L2.out _ _) | (go_at_call 60; with_reducible exact still1 L2.out _ _ _))
  go_wp2
  go_ret2
  exact WritesTo.bad (E := 1) HE.out (by decide) (by first | exact HBX.out _ _ | exact HBY.out _)

set_option maxRecDepth 100000 in
set_option maxHeartbeats 3200000 in
theorem ref_Write_D (d s c y : Nat) (l : List Nat) {A : Option Addr} {k p : Nat} (hk : l.length = k) (hk2 : k ≤ 1600) (w : World) (hd : d < 281474976710656) (hs : s < 281474976710656) (hc : c = 0) (hy : y = 33024) (he : wErr ⟨d, s, false, c, y, l⟩ = 1) :
    Calls Try.prog 23 #[.agg #[.int .u64 (d : Int), .int .u64 (s : Int), .bool false, .int .u16 (c : Int), .int .u16 (y : Int), .slice A k p]] w (WritesTo ⟨d, s, false, c, y, l⟩ w) := by
  have HE := Lib.hid he
  have HBX := Lib.hid (fun o n => below_drewN ((Below.refl w.heap.size w).alloc (Nat.le_refl _) o) n)
  have HBY := Lib.hid (fun o => ((Below.refl w.heap.size w).alloc (Nat.le_refl _) o))
  clear he
  have L1 := Lib.hid fun W => low_in hd W
  have q1 : ((d : Int) != (d : Int)) = false := by simp
  have L2 := Lib.hid fun W => low_in hs W
  have q2 : ((s : Int) != (s : Int)) = false := by simp
  have q3 : ((c : Int) != 0) = false := by simp; omega
  have q4 : ((y : Int) == 33024) = true := by simp; omega
  clear hd hs hc hy
  go_enter Try.func23, Try.ntmps23
  go_wp2_with fail
  go_quiet (first | (go_at_call 60; with_reducible exact still0 L1.out _ _) | (go_at_call 60; with_reducible exact still1 L1.out _ _ _) | (go_at_call 60; with_reducible exact still0 L2.out _ _) | (go_at_call 60; with_reducible exact still1 L2.out _ _ _))
  go_wp2
  go_ret2
  exact WritesTo.bad (E := 1) HE.out (by decide) (by first | exact HBX.out _ _ | exact HBY.out _)

set_option maxRecDepth 100000 in
set_option maxHeartbeats 3200000 in
theorem ref_Write_E_true (d s c y : Nat) (l : List Nat) {A : Option Addr} {k p : Nat} (hk : l.length = k) (hk2 : k ≤ 1600) (w : World) (hd : d < 281474976710656) (hs : s < 281474976710656) (hl : 1500 < k) (he : wErr ⟨d, s, true, c, y, l⟩ = 3) :
    Calls Try.prog 23 #[.agg #[.int .u64 (d : Int), .int .u64 (s : Int), .bool true, .int .u16 (c : Int), .int .u16 (y : Int), .slice A k p]] w (WritesTo ⟨d, s, true, c, y, l⟩ w) := by
  have HE := Lib.hid he
  have HBX := Lib.hid (fun o n => below_drewN ((Below.refl w.heap.size w).alloc (Nat.le_refl _) o) n)
  have HBY := Lib.hid (fun o => ((Below.refl w.heap.size w).alloc (Nat.le_refl _) o))
  clear he
  have L1 := Lib.hid fun W => low_in hd W
  have q1 : ((d : Int) != (d : Int)) = false := by simp
  have L2 := Lib.hid fun W => low_in hs W
  have q2 : ((s : Int) != (s : Int)) = false := by simp
  have q5 : (k : Int) > 1500 := by omega
  have q6 : 1500 < (k : Int) := by omega
  clear hd hs hl
  go_enter Try.func23, Try.ntmps23
  go_wp2_with fail
  go_quiet (first | (go_at_call 60; with_reducible exact still0 L1.out _ _) | (go_at_call 60; with_reducible exact still1 L1.out _ _ _) | (go_at_call 60; with_reducible exact still0 L2.out _ _) | (go_at_call 60; with_reducible exact still1 L2.out _ _ _))
  go_wp2
  go_ret2
  exact WritesTo.bad (E := 3) HE.out (by decide) (by first | exact HBX.out _ _ | exact HBY.out _)

set_option maxRecDepth 100000 in
set_option maxHeartbeats 3200000 in
theorem ref_Write_F_true (d s c y : Nat) (l : List Nat) {A : Option Addr} {k p : Nat} (hk : l.length = k) (hk2 : k ≤ 1600) (w : World) (hd : d < 281474976710656) (hs : s < 281474976710656) (hl : ¬ 1500 < k) (hm : meetsB y k = false) (he : wErr ⟨d, s, true, c, y, l⟩ = 4) :
    Calls Try.prog 23 #[.agg #[.int .u64 (d : Int), .int .u64 (s : Int), .bool true, .int .u16 (c : Int), .int .u16 (y : Int), .slice A k p]] w (WritesTo ⟨d, s, true, c, y, l⟩ w) := by
  have HE := Lib.hid he
  have HBX := Lib.hid (fun o n => below_drewN ((Below.refl w.heap.size w).alloc (Nat.le_refl _) o) n)
  have HBY := Lib.hid (fun o => ((Below.refl w.heap.size w).alloc (Nat.le_refl _) o))
  clear he
  have L1 := Lib.hid fun W => low_in hd W
  have q1 : ((d : Int) != (d : Int)) = false := by simp
  have L2 := Lib.hid fun W => low_in hs W
  have q2 : ((s : Int) != (s : Int)) = false := by simp
  have q5 : ¬ (k : Int) > 1500 := by omega
  have q6 : ¬ 1500 < (k : Int) := by omega
  have hF := fun W => ref_form y (k : Int) (by omega) W
  rw [Int.toNat_natCast, hm] at hF
  have HF := Lib.hid hF
  clear hd hs hl hm hF
  go_enter Try.func23, Try.ntmps23
  go_wp2_with fail
  go_quiet (first | (go_at_call 60; with_reducible exact still0 L1.out _ _) | (go_at_call 60; with_reducible exact still1 L1.out _ _ _) | (go_at_call 60; with_reducible exact still0 L2.out _ _) | (go_at_call 60; with_reducible exact still1 L2.out _ _ _))
  go_wp2_with fail
  refine (HF.out _).mono ?_
  rintro e w3 ⟨rfl, rfl⟩
  go_wp2
  go_ret2
  exact WritesTo.bad (E := 4) HE.out (by decide) (by first | exact HBX.out _ _ | exact HBY.out _)

set_option maxRecDepth 100000 in
set_option maxHeartbeats 3200000 in
theorem ref_Write_E_false (d s c y : Nat) (l : List Nat) {A : Option Addr} {k p : Nat} (hk : l.length = k) (hk2 : k ≤ 1600) (w : World) (hd : d < 281474976710656) (hs : s < 281474976710656) (hc : c = 0) (hy : y ≠ 33024) (hl : 1500 < k) (he : wErr ⟨d, s, false, c, y, l⟩ = 3) :
    Calls Try.prog 23 #[.agg #[.int .u64 (d : Int), .int .u64 (s : Int), .bool false, .int .u16 (c : Int), .int .u16 (y : Int), .slice A k p]] w (WritesTo ⟨d, s, false, c, y, l⟩ w) := by
  have HE := Lib.hid he
  have HBX := Lib.hid (fun o n => below_drewN ((Below.refl w.heap.size w).alloc (Nat.le_refl _) o) n)
  have HBY := Lib.hid (fun o => ((Below.refl w.heap.size w).alloc (Nat.le_refl _) o))
  clear he
  have L1 := Lib.hid fun W => low_in hd W
  have q1 : ((d : Int) != (d : Int)) = false := by simp
  have L2 := Lib.hid fun W => low_in hs W
  have q2 : ((s : Int) != (s : Int)) = false := by simp
  have q3 : ((c : Int) != 0) = false := by simp; omega
  have q4 : ((y : Int) == 33024) = false := by simp; omega
  clear hc hy
  have q5 : (k : Int) > 1500 := by omega
  have q6 : 1500 < (k : Int) := by omega
  clear hd hs hl
  go_enter Try.func23, Try.ntmps23
  go_wp2_with fail
  go_quiet (first | (go_at_call 60; with_reducible exact still0 L1.out _ _) | (go_at_call 60; with_reducible exact still1 L1.out _ _ _) | (go_at_call 60; with_reducible exact still0 L2.out _ _) | (go_at_call 60; with_reducible exact still1 L2.out _ _ _))
  go_wp2
  go_ret2
  exact WritesTo.bad (E := 3) HE.out (by decide) (by first | exact HBX.out _ _ | exact HBY.out _)

set_option maxRecDepth 100000 in
set_option maxHeartbeats 3200000 in
theorem ref_Write_F_false (d s c y : Nat) (l : List Nat) {A : Option Addr} {k p : Nat} (hk : l.length = k) (hk2 : k ≤ 1600) (w : World) (hd : d < 281474976710656) (hs : s < 281474976710656) (hc : c = 0) (hy : y ≠ 33024) (hl : ¬ 1500 < k) (hm : meetsB y k = false) (he : wErr ⟨d, s, false, c, y, l⟩ = 4) :
    Calls Try.prog 23 #[.agg #[.int .u64 (d : Int), .int .u64 (s : Int), .bool false, .int .u16 (c : Int), .int .u16 (y : Int), .slice A k p]] w (WritesTo ⟨d, s, false, c, y, l⟩ w) := by
  have HE := Lib.hid he
  have HBX := Lib.hid (fun o n => below_drewN ((Below.refl w.heap.size w).alloc (Nat.le_refl _) o) n)
  have HBY := Lib.hid (fun o => ((Below.refl w.heap.size w).alloc (Nat.le_refl _) o))
  clear he
  have L1 := Lib.hid fun W => low_in hd W
  have q1 : ((d : Int) != (d : Int)) = false := by simp
  have L2 := Lib.hid fun W => low_in hs W
  have q2 : ((s : Int) != (s : Int)) = false := by simp
  have q3 : ((c : Int) != 0) = false := by simp; omega
  have q4 : ((y : Int) == 33024) = false := by simp; omega
  clear hc hy
  have q5 : ¬ (k : Int) > 1500 := by omega
  have q6 : ¬ 1500 < (k : Int) := by omega
  have hF := fun W => ref_form y (k : Int) (by omega) W
  rw [Int.toNat_natCast, hm] at hF
  have HF := Lib.hid hF
  clear hd hs hl hm hF
  go_enter Try.func23, Try.ntmps23
  go_wp2_with fail
  go_quiet (first | (go_at_call 60; with_reducible exact still0 L1.out _ _) | (go_at_call 60; with_reducible exact still1 L1.out _ _ _) | (go_at_call 60; with_reducible exact still0 L2.out _ _) | (go_at_call 60; with_reducible exact still1 L2.out _ _ _))
  go_wp2_with fail
  refine (HF.out _).mono ?_
  rintro e w3 ⟨rfl, rfl⟩
  go_wp2
  go_ret2
  exact WritesTo.bad (E := 4) HE.out (by decide) (by first | exact HBX.out _ _ | exact HBY.out _)
theorem keepc {w w' : World} {b o : Nat} {v : Value} (h : w.cell? ⟨b, o, none⟩ = some v) (hk : ∀ p : Addr, p.block = b → w'.cell? p = w.cell? p) : w'.cell? ⟨b, o, none⟩ = some v := (hk _ rfl).trans h
theorem keepcc {w w' : World} {b o1 o2 : Nat} {v1 v2 : Value} (h : w.cell? ⟨b, o1, none⟩ = some v1 ∧ w.cell? ⟨b, o2, none⟩ = some v2) (hk : ∀ p : Addr, p.block = b → w'.cell? p = w.cell? p) :
    w'.cell? ⟨b, o1, none⟩ = some v1 ∧ w'.cell? ⟨b, o2, none⟩ = some v2 := ⟨(hk _ rfl).trans h.1, (hk _ rfl).trans h.2⟩

set_option maxRecDepth 100000 in
set_option maxHeartbeats 6400000 in
theorem ref_Write_true (d s c y : Nat) (l : List Nat) {A : Option Addr} {k p : Nat} (hk : l.length = k) (hk2 : k ≤ 1600) (w : World) {B : Nat} (hv : Sl w B 1 (.slice A k p) k (bv l)) (hB : B ≤ w.heap.size) (hd : d < 281474976710656) (hs : s < 281474976710656) (hc : c < 65536) (hy : y < 65536) (hl : ¬ 1500 < k) (hm : meetsB y k = true) (he : wErr ⟨d, s, true, c, y, l⟩ = 0) :
    Calls Try.prog 23 #[.agg #[.int .u64 (d : Int), .int .u64 (s : Int), .bool true, .int .u16 (c : Int), .int .u16 (y : Int), .slice A k p]] w (WritesTo ⟨d, s, true, c, y, l⟩ w) := by
  have HE := Lib.hid he
  have HV := Lib.hid hv
  have HBD := Lib.hid fun W => ref_Bytes d (by omega) W
  have HBS := Lib.hid fun W => ref_Bytes s (by omega) W
  have HBC := Lib.hid fun W => @ref_bytes c hc W
  have HBYY := Lib.hid fun W => @ref_bytes y hy W
  have HLB := Lib.hid hB
  have L1 := Lib.hid fun W => low_in hd W
  have q1 : ((d : Int) != (d : Int)) = false := by simp
  have L2 := Lib.hid fun W => low_in hs W
  have q2 : ((s : Int) != (s : Int)) = false := by simp
  have q5 : ¬ (k : Int) > 1500 := by omega
  have q6 : ¬ 1500 < (k : Int) := by omega
  have hF := fun W => ref_form y (k : Int) (by omega) W
  rw [Int.toNat_natCast, hm] at hF
  have HF := Lib.hid hF
  have HLEN := Lib.hid hk
  have HWB : Hid (wBytes ⟨d, s, true, c, y, l⟩ = padL (mb d ++ mb s ++ ([129, 0] ++ by2 c) ++ by2 y ++ l)) := rfl
  clear hd hs hl hm hF he hv hc hy hk
  go_enter Try.func23, Try.ntmps23
  go_wp2_with fail
  go_quiet (first | (go_at_call 60; with_reducible exact still0 L1.out _ _) | (go_at_call 60; with_reducible exact still1 L1.out _ _ _) | (go_at_call 60; with_reducible exact still0 L2.out _ _) | (go_at_call 60; with_reducible exact still1 L2.out _ _ _))
  go_wp2_with fail
  refine (HF.out _).mono ?_
  rintro e w1 ⟨rfl, hw1⟩
  have hb1 : Below w.heap.size w w1 := by rw [← hw1]; exact below_drewN ((Below.refl _ _).alloc (Nat.le_refl _) _) _
  have hz1 : w.heap.size + 1 ≤ w1.heap.size := by rw [← hw1]; simp
  have HS : Hid (w1.cell? ⟨w.heap.size, 0, none⟩ = some (.int .u64 (d : Int)) ∧ w1.cell? ⟨w.heap.size, 1, none⟩ = some (.int .u64 (s : Int))) := by rw [← hw1]; exact ⟨by simp [go_sem], by simp [go_sem]⟩
  have C1 : Hid (w1.cell? ⟨w.heap.size, 2, none⟩ = some (.bool true) ∧ w1.cell? ⟨w.heap.size, 3, none⟩ = some (.int .u16 (c : Int)) ∧ w1.cell? ⟨w.heap.size, 4, none⟩ = some (.int .u16 (y : Int)) ∧ w1.cell? ⟨w.heap.size, 5, none⟩ = some (.slice A k p)) := by rw [← hw1]; exact ⟨by simp [go_sem], by simp [go_sem], by simp [go_sem], by simp [go_sem]⟩
  clear hw1 L1 L2 q1 q2
  go_wp2_with fail
  go_region_held3 (fun w' => w'.cell? ⟨w.heap.size, 0, none⟩ = some (.int .u64 (d : Int)) ∧ w'.cell? ⟨w.heap.size, 1, none⟩ = some (.int .u64 (s : Int)))
    (first | (with_reducible assumption) | (with_reducible exact keepcc (by assumption) (fun p hp => hb.cell (by rw [hp]; go_size))) | (with_reducible exact keepcc (by assumption) (fun p hp => World.cell?_alloc_lt _ _ _ (by rw [hp]; go_size))) | (exact HS.out) | (exact keepcc HS.out (fun p hp => World.cell?_alloc_lt _ _ _ (by rw [hp]; go_size))))
    (first
      | (go_at_call 61; (with_reducible refine Calls.mono (HBD.out _) ?_); rintro e w2 ⟨v2, rfl, ho2, hb⟩; have hc2 : Below w1.heap.size w1 w2 := Below.trans (by (repeat' (first | (with_reducible exact Below.refl _ _) | (with_reducible assumption) | (with_reducible refine Below.setCell ?_ ?_ _) | (with_reducible refine Below.alloc ?_ ?_ _) | (with_reducible refine below_drewN ?_ _) | (with_reducible refine Below.drew ?_) | go_size))) (hb.mono (by go_size)); have hz2 := hc2.size; have hO2 := own_base (base' := w1.heap.size) ho2 (by go_size))
      | (go_at_call 61; (with_reducible refine Calls.mono (HBS.out _) ?_); rintro e w3 ⟨v3, rfl, ho3, hb⟩; have hc3 : Below w2.heap.size w2 w3 := Below.trans (by (repeat' (first | (with_reducible exact Below.refl _ _) | (with_reducible assumption) | (with_reducible refine Below.setCell ?_ ?_ _) | (with_reducible refine Below.alloc ?_ ?_ _) | (with_reducible refine below_drewN ?_ _) | (with_reducible refine Below.drew ?_) | go_size))) (hb.mono (by go_size)); have hz3 := hc3.size; have hO3 := own_below hO2 hc3)
      | (refine step_app _ (by rfl) stBytes _ _ (by rfl) w1.heap.size v2 6 _ (by rfl) hO3 w3.heap.size _ 6 _ (by rfl) (Sl.of_own ho3) (bv_one _) (by omega) (by go_size) ?_; intro v4 w4 ho4 hg4 hat4 hb))
  all_goals
    have hbt : Below w1.heap.size w1 w4 := (hc2.trans (hc3.mono hz2)).trans hb
    rw [← bv_append] at ho4
    have HO4 := Lib.hid ho4
    have BT4 := Lib.hid hbt
    have hz4 := hbt.size
    clear ho4 hb hbt hg4 hat4 ho3 ho2 hO2 hO3 hc2 hc3 hz2 hz3 HS HBD HBS HF
    obtain ⟨c2, c3, c4, c5⟩ := C1.out
    have r2 := (BT4.out.cell (p := ⟨w.heap.size, 2, none⟩) (by show w.heap.size < _; omega)).trans c2
    have r3 := (BT4.out.cell (p := ⟨w.heap.size, 3, none⟩) (by show w.heap.size < _; omega)).trans c3
    have r4 := (BT4.out.cell (p := ⟨w.heap.size, 4, none⟩) (by show w.heap.size < _; omega)).trans c4
    have r5 := (BT4.out.cell (p := ⟨w.heap.size, 5, none⟩) (by show w.heap.size < _; omega)).trans c5
    clear c2 c3 c4 c5 C1
    have HS : Hid (w4.cell? ⟨w.heap.size, 3, none⟩ = some (.int .u16 (c : Int))) := r3
    go_wp2_with fail
    go_region_held3 (fun w' => w'.cell? ⟨w.heap.size, 3, none⟩ = some (.int .u16 (c : Int)))
      (first | (with_reducible assumption) | (with_reducible exact keepc (by assumption) (fun p hp => hb.cell (by rw [hp]; go_size))) | (with_reducible exact keepc (by assumption) (fun p hp => World.cell?_alloc_lt _ _ _ (by rw [hp]; go_size))) | (exact HS.out) | (exact keepc HS.out (fun p hp => World.cell?_alloc_lt _ _ _ (by rw [hp]; go_size))))
      (first
        | (refine step_app _ (by rfl) stBytes _ _ (by rfl) w1.heap.size v4 (6 + 6) _ (by rfl) ((HO4.out.alloc _).drew) (w4.heap.size + 1) _ 2 [.int .u8 129, .int .u8 0] (by rfl) ((Sl.lit w4 #[.int .u8 129, .int .u8 0] _ 2 rfl (by decide)).drew) (by simp [Value.oneCell']) (by omega) (by simp; omega) ?_; intro v5 w5 ho5 hg5 hat5 hb; have hc5 : Below w1.heap.size w1 w5 := Below.trans (((BT4.out.alloc hz4 (.cells #[.int .u8 129, .int .u8 0] 5)).drew)) hb; have hz5 := hc5.size)
        | (go_at_call 62; (with_reducible refine Calls.mono (HBC.out _) ?_); rintro e w6 ⟨A6, p6, rfl, ho6, hb⟩; have hc6 : Below w5.heap.size w5 w6 := Below.trans (by (repeat' (first | (with_reducible exact Below.refl _ _) | (with_reducible assumption) | (with_reducible refine Below.setCell ?_ ?_ _) | (with_reducible refine Below.alloc ?_ ?_ _) | (with_reducible refine below_drewN ?_ _) | (with_reducible refine Below.drew ?_) | go_size))) (hb.mono (by go_size)); have hz6 := hc6.size; have hO6 := own_below ho5 hc6)
        | (refine step_app _ (by rfl) stBytes _ _ (by rfl) w1.heap.size v5 (6 + 6 + 2) _ (by rfl) hO6 w6.heap.size _ 2 (bv (by2 c)) (by rfl) (Sl.of_own ho6) (bv_one _) (by omega) (by go_size) ?_; intro v7 w7 ho7 hg7 hat7 hb))
    all_goals
      have hbt7 : Below w1.heap.size w1 w7 := (hc5.trans (hc6.mono hz5)).trans hb
      have hl2 : bv (mb d ++ mb s) ++ [.int .u8 129, .int .u8 0] ++ bv (by2 c) = bv (mb d ++ mb s ++ ([129, 0] ++ by2 c)) := by simp [bv]
      rw [hl2] at ho7
      have HO7 := Lib.hid ho7
      have BT7 := Lib.hid hbt7
      have hz7 := hbt7.size
      have r4' := (BT7.out.cell (p := ⟨w.heap.size, 4, none⟩) (by show w.heap.size < _; omega)).trans (((BT4.out.cell (p := ⟨w.heap.size, 4, none⟩) (by show w.heap.size < _; omega)).symm).trans r4)
      have r5' := (BT7.out.cell (p := ⟨w.heap.size, 5, none⟩) (by show w.heap.size < _; omega)).trans (((BT4.out.cell (p := ⟨w.heap.size, 5, none⟩) (by show w.heap.size < _; omega)).symm).trans r5)
      clear ho7 hb hbt7 hg5 hg7 hat5 hat7 ho6 ho5 hO6 hc5 hc6 hz5 hz6 HS hl2 HO4 r4 r5 HBC
      have r4 := r4'
      have r5 := r5'
      clear r4' r5'
      have HS : Hid (w7.cell? ⟨w.heap.size, 4, none⟩ = some (.int .u16 (y : Int)) ∧ w7.cell? ⟨w.heap.size, 5, none⟩ = some (.slice A k p)) := And.intro r4 r5
      clear r2 r3 r4 r5
      go_wp2_with fail
      go_region_held3 (fun w' => w'.cell? ⟨w.heap.size, 4, none⟩ = some (.int .u16 (y : Int)) ∧ w'.cell? ⟨w.heap.size, 5, none⟩ = some (.slice A k p))
        (first | (with_reducible assumption) | (with_reducible exact keepcc (by assumption) (fun p hp => hb.cell (by rw [hp]; go_size))) | (with_reducible exact keepcc (by assumption) (fun p hp => World.cell?_alloc_lt _ _ _ (by rw [hp]; go_size))) | (exact HS.out) | (exact keepcc HS.out (fun p hp => World.cell?_alloc_lt _ _ _ (by rw [hp]; go_size))))
        (first
          | (go_at_call 62; (with_reducible refine Calls.mono (HBYY.out _) ?_); rintro e w8 ⟨A8, p8, rfl, ho8, hb⟩; have hc8 : Below w7.heap.size w7 w8 := Below.trans (by (repeat' (first | (with_reducible exact Below.refl _ _) | (with_reducible assumption) | (with_reducible refine Below.setCell ?_ ?_ _) | (with_reducible refine Below.alloc ?_ ?_ _) | (with_reducible refine below_drewN ?_ _) | (with_reducible refine Below.drew ?_) | go_size))) (hb.mono (by go_size)); have hz8 := hc8.size; have hO8 := own_below HO7.out hc8)
          | (refine step_app _ (by rfl) stBytes _ _ (by rfl) w1.heap.size v7 (6 + 6 + 2 + 2) _ (by rfl) hO8 w8.heap.size _ 2 (bv (by2 y)) (by rfl) (Sl.of_own ho8) (bv_one _) (by omega) (by go_size) ?_; intro v9 w9 ho9 hg9 hat9 hb; have hc9 : Below w1.heap.size w1 w9 := (BT7.out.trans (hc8.mono (by go_size))).trans hb; have hz9 := hc9.size)
          | (refine step_app _ (by rfl) stBytes _ _ (by rfl) w1.heap.size v9 (6 + 6 + 2 + 2 + 2) _ (by rfl) ho9 B _ k (bv l) (by rfl) (HV.out.below ((hb1.trans (hc9.mono (by go_size))).mono HLB.out)) (bv_one _) (by omega) (by go_size) ?_; intro v10 w10 ho10 hg10 hat10 hb; have hc10 : Below w1.heap.size w1 w10 := hc9.trans hb; have hz10 := hc10.size)
          | (go_at_call 63; (with_reducible refine Calls.mono (ref_pad (l := (mb d ++ mb s ++ ([129, 0] ++ by2 c)) ++ by2 y ++ l) (by have := ho10; rw [← bv_append, ← bv_append] at this; exact this) (by go_size) (by omega)) ?_); rintro e w11 ⟨A11, p11, rfl, ho11, hb⟩))
      all_goals
        have hc11 : Below w1.heap.size w1 w11 := hc10.trans hb
        have HO11 := Lib.hid ho11
        have HB11 := Lib.hid (hb1.trans (hc11.mono (by omega)))
        clear ho11 hb hc11 hc10 hc9 hc8 ho10 ho9 ho8 hO8 hg9 hg10 hat9 hat10 HS
        go_wp2
        go_ret2
        exact WritesTo.ok HE.out HWB.out (own_base HO11.out (by omega)) HB11.out

set_option maxRecDepth 100000 in
set_option maxHeartbeats 6400000 in
theorem ref_Write_false (d s c y : Nat) (l : List Nat) {A : Option Addr} {k p : Nat} (hk : l.length = k) (hk2 : k ≤ 1600) (w : World) {B : Nat} (hv : Sl w B 1 (.slice A k p) k (bv l)) (hB : B ≤ w.heap.size) (hd : d < 281474976710656) (hs : s < 281474976710656) (hc0 : c = 0) (hy0 : y ≠ 33024) (hc : c < 65536) (hy : y < 65536) (hl : ¬ 1500 < k) (hm : meetsB y k = true) (he : wErr ⟨d, s, false, c, y, l⟩ = 0) :
    Calls Try.prog 23 #[.agg #[.int .u64 (d : Int), .int .u64 (s : Int), .bool false, .int .u16 (c : Int), .int .u16 (y : Int), .slice A k p]] w (WritesTo ⟨d, s, false, c, y, l⟩ w) := by
  have HE := Lib.hid he
  have HV := Lib.hid hv
  have HBD := Lib.hid fun W => ref_Bytes d (by omega) W
  have HBS := Lib.hid fun W => ref_Bytes s (by omega) W
  have HBC := Lib.hid fun W => @ref_bytes c hc W
  have HBYY := Lib.hid fun W => @ref_bytes y hy W
  have HLB := Lib.hid hB
  have L1 := Lib.hid fun W => low_in hd W
  have q1 : ((d : Int) != (d : Int)) = false := by simp
  have L2 := Lib.hid fun W => low_in hs W
  have q2 : ((s : Int) != (s : Int)) = false := by simp
  have q3 : ((c : Int) != 0) = false := by simp; omega
  have q4 : ((y : Int) == 33024) = false := by simp; omega
  clear hc0 hy0
  have q5 : ¬ (k : Int) > 1500 := by omega
  have q6 : ¬ 1500 < (k : Int) := by omega
  have hF := fun W => ref_form y (k : Int) (by omega) W
  rw [Int.toNat_natCast, hm] at hF
  have HF := Lib.hid hF
  have HLEN := Lib.hid hk
  have HWB : Hid (wBytes ⟨d, s, false, c, y, l⟩ = padL (mb d ++ mb s ++ ([]) ++ by2 y ++ l)) := rfl
  clear hd hs hl hm hF he hv hc hy hk
  go_enter Try.func23, Try.ntmps23
  go_wp2_with fail
  go_quiet (first | (go_at_call 60; with_reducible exact still0 L1.out _ _) | (go_at_call 60; with_reducible exact still1 L1.out _ _ _) | (go_at_call 60; with_reducible exact still0 L2.out _ _) | (go_at_call 60; with_reducible exact still1 L2.out _ _ _))
  go_wp2_with fail
  refine (HF.out _).mono ?_
  rintro e w1 ⟨rfl, hw1⟩
  have hb1 : Below w.heap.size w w1 := by rw [← hw1]; exact below_drewN ((Below.refl _ _).alloc (Nat.le_refl _) _) _
  have hz1 : w.heap.size + 1 ≤ w1.heap.size := by rw [← hw1]; simp
  have HS : Hid (w1.cell? ⟨w.heap.size, 0, none⟩ = some (.int .u64 (d : Int)) ∧ w1.cell? ⟨w.heap.size, 1, none⟩ = some (.int .u64 (s : Int))) := by rw [← hw1]; exact ⟨by simp [go_sem], by simp [go_sem]⟩
  have C1 : Hid (w1.cell? ⟨w.heap.size, 2, none⟩ = some (.bool false) ∧ w1.cell? ⟨w.heap.size, 3, none⟩ = some (.int .u16 (c : Int)) ∧ w1.cell? ⟨w.heap.size, 4, none⟩ = some (.int .u16 (y : Int)) ∧ w1.cell? ⟨w.heap.size, 5, none⟩ = some (.slice A k p)) := by rw [← hw1]; exact ⟨by simp [go_sem], by simp [go_sem], by simp [go_sem], by simp [go_sem]⟩
  clear hw1 L1 L2 q1 q2
  go_wp2_with fail
  go_region_held3 (fun w' => w'.cell? ⟨w.heap.size, 0, none⟩ = some (.int .u64 (d : Int)) ∧ w'.cell? ⟨w.heap.size, 1, none⟩ = some (.int .u64 (s : Int)))
    (first | (with_reducible assumption) | (with_reducible exact keepcc (by assumption) (fun p hp => hb.cell (by rw [hp]; go_size))) | (with_reducible exact keepcc (by assumption) (fun p hp => World.cell?_alloc_lt _ _ _ (by rw [hp]; go_size))) | (exact HS.out) | (exact keepcc HS.out (fun p hp => World.cell?_alloc_lt _ _ _ (by rw [hp]; go_size))))
    (first
      | (go_at_call 61; (with_reducible refine Calls.mono (HBD.out _) ?_); rintro e w2 ⟨v2, rfl, ho2, hb⟩; have hc2 : Below w1.heap.size w1 w2 := Below.trans (by (repeat' (first | (with_reducible exact Below.refl _ _) | (with_reducible assumption) | (with_reducible refine Below.setCell ?_ ?_ _) | (with_reducible refine Below.alloc ?_ ?_ _) | (with_reducible refine below_drewN ?_ _) | (with_reducible refine Below.drew ?_) | go_size))) (hb.mono (by go_size)); have hz2 := hc2.size; have hO2 := own_base (base' := w1.heap.size) ho2 (by go_size))
      | (go_at_call 61; (with_reducible refine Calls.mono (HBS.out _) ?_); rintro e w3 ⟨v3, rfl, ho3, hb⟩; have hc3 : Below w2.heap.size w2 w3 := Below.trans (by (repeat' (first | (with_reducible exact Below.refl _ _) | (with_reducible assumption) | (with_reducible refine Below.setCell ?_ ?_ _) | (with_reducible refine Below.alloc ?_ ?_ _) | (with_reducible refine below_drewN ?_ _) | (with_reducible refine Below.drew ?_) | go_size))) (hb.mono (by go_size)); have hz3 := hc3.size; have hO3 := own_below hO2 hc3)
      | (refine step_app _ (by rfl) stBytes _ _ (by rfl) w1.heap.size v2 6 _ (by rfl) hO3 w3.heap.size _ 6 _ (by rfl) (Sl.of_own ho3) (bv_one _) (by omega) (by go_size) ?_; intro v4 w4 ho4 hg4 hat4 hb))
  all_goals
    have hbt : Below w1.heap.size w1 w4 := (hc2.trans (hc3.mono hz2)).trans hb
    rw [← bv_append] at ho4
    have HO4 := Lib.hid ho4
    have BT4 := Lib.hid hbt
    have hz4 := hbt.size
    clear ho4 hb hbt hg4 hat4 ho3 ho2 hO2 hO3 hc2 hc3 hz2 hz3 HS HBD HBS HF
    obtain ⟨c2, c3, c4, c5⟩ := C1.out
    have r2 := (BT4.out.cell (p := ⟨w.heap.size, 2, none⟩) (by show w.heap.size < _; omega)).trans c2
    have r3 := (BT4.out.cell (p := ⟨w.heap.size, 3, none⟩) (by show w.heap.size < _; omega)).trans c3
    have r4 := (BT4.out.cell (p := ⟨w.heap.size, 4, none⟩) (by show w.heap.size < _; omega)).trans c4
    have r5 := (BT4.out.cell (p := ⟨w.heap.size, 5, none⟩) (by show w.heap.size < _; omega)).trans c5
    clear c2 c3 c4 c5 C1
    go_wp2_with fail
    have HS : Hid (w4.cell? ⟨w.heap.size, 4, none⟩ = some (.int .u16 (y : Int)) ∧ w4.cell? ⟨w.heap.size, 5, none⟩ = some (.slice A k p)) := And.intro r4 r5
    clear r2 r3 r4 r5
    go_region_held3 (fun w' => w'.cell? ⟨w.heap.size, 4, none⟩ = some (.int .u16 (y : Int)) ∧ w'.cell? ⟨w.heap.size, 5, none⟩ = some (.slice A k p))
      (first | (with_reducible assumption) | (with_reducible exact keepcc (by assumption) (fun p hp => hb.cell (by rw [hp]; go_size))) | (with_reducible exact keepcc (by assumption) (fun p hp => World.cell?_alloc_lt _ _ _ (by rw [hp]; go_size))) | (exact HS.out) | (exact keepcc HS.out (fun p hp => World.cell?_alloc_lt _ _ _ (by rw [hp]; go_size))))
      (first
        | (go_at_call 62; (with_reducible refine Calls.mono (HBYY.out _) ?_); rintro e w8 ⟨A8, p8, rfl, ho8, hb⟩; have hc8 : Below w4.heap.size w4 w8 := Below.trans (by (repeat' (first | (with_reducible exact Below.refl _ _) | (with_reducible assumption) | (with_reducible refine Below.setCell ?_ ?_ _) | (with_reducible refine Below.alloc ?_ ?_ _) | (with_reducible refine below_drewN ?_ _) | (with_reducible refine Below.drew ?_) | go_size))) (hb.mono (by go_size)); have hz8 := hc8.size; have hO8 := own_below HO4.out hc8)
        | (refine step_app _ (by rfl) stBytes _ _ (by rfl) w1.heap.size v4 (6 + 6) _ (by rfl) hO8 w8.heap.size _ 2 (bv (by2 y)) (by rfl) (Sl.of_own ho8) (bv_one _) (by omega) (by go_size) ?_; intro v9 w9 ho9 hg9 hat9 hb; have hc9 : Below w1.heap.size w1 w9 := (BT4.out.trans (hc8.mono (by go_size))).trans hb; have hz9 := hc9.size)
        | (refine step_app _ (by rfl) stBytes _ _ (by rfl) w1.heap.size v9 (6 + 6 + 2) _ (by rfl) ho9 B _ k (bv l) (by rfl) (HV.out.below ((hb1.trans (hc9.mono (by go_size))).mono HLB.out)) (bv_one _) (by omega) (by go_size) ?_; intro v10 w10 ho10 hg10 hat10 hb; have hc10 : Below w1.heap.size w1 w10 := hc9.trans hb; have hz10 := hc10.size)
        | (go_at_call 63; (with_reducible refine Calls.mono (ref_pad (l := (mb d ++ mb s ++ []) ++ by2 y ++ l) (by have := ho10; rw [← bv_append, ← bv_append] at this; rw [List.append_nil]; exact this) (by go_size) (by omega)) ?_); rintro e w11 ⟨A11, p11, rfl, ho11, hb⟩))
    all_goals
      have hc11 : Below w1.heap.size w1 w11 := hc10.trans hb
      have HO11 := Lib.hid ho11
      have HB11 := Lib.hid (hb1.trans (hc11.mono (by omega)))
      clear ho11 hb hc11 hc10 hc9 hc8 ho10 ho9 ho8 hO8 hg9 hg10 hat9 hat10 HS
      go_wp2
      go_ret2
      exact WritesTo.ok HE.out HWB.out (own_base HO11.out (by omega)) HB11.out

theorem ref_Write {f : Fr} (hd : f.dst < 18446744073709551616) (hs : f.src < 18446744073709551616) (hc : f.tci < 65536) (hy : f.typ < 65536) {A : Option Addr} {k p : Nat} (hk : f.load.length = k) (hk2 : k ≤ 1600) {w : World} {B : Nat} (hv : Sl w B 1 (.slice A k p) k (bv f.load)) (hB : B ≤ w.heap.size) :
    Calls Try.prog 23 #[frV f (.slice A k p)] w (WritesTo f w) := by
  obtain ⟨d, s, t, c, y, l⟩ := f
  show Calls Try.prog 23 #[.agg #[.int .u64 (d : Int), .int .u64 (s : Int), .bool t, .int .u16 (c : Int), .int .u16 (y : Int), .slice A k p]] w (WritesTo ⟨d, s, t, c, y, l⟩ w)
  change l.length = k at hk
  change c < 65536 at hc
  change y < 65536 at hy
  by_cases h1 : d < 281474976710656
  · by_cases h2 : s < 281474976710656
    · have e1 := fun h => werr_tag (f := ⟨d, s, t, c, y, l⟩) ⟨h1, h2⟩ h
      have e2 := fun h => werr_rest (f := ⟨d, s, t, c, y, l⟩) ⟨h1, h2⟩ h
      simp only at e1 e2
      rw [hk] at e2
      cases t
      · by_cases h3 : c = 0
        · by_cases h4 : y = 33024
          · exact ref_Write_D d s c y l hk hk2 w h1 h2 h3 h4 (e1 ⟨rfl, .inr h4⟩)
          · have e3 := e2 (by rintro ⟨_, h | h⟩ <;> contradiction)
            by_cases h5 : 1500 < k
            · rw [if_pos h5] at e3
              exact ref_Write_E_false d s c y l hk hk2 w h1 h2 h3 h4 h5 e3
            · rw [if_neg h5] at e3
              cases hm : meetsB y k
              · rw [hm] at e3
                exact ref_Write_F_false d s c y l hk hk2 w h1 h2 h3 h4 h5 hm e3
              · rw [hm] at e3
                exact ref_Write_false d s c y l hk hk2 w hv hB h1 h2 h3 h4 hc hy h5 hm e3
        · exact ref_Write_C d s c y l hk hk2 w h1 h2 h3 (e1 ⟨rfl, .inl h3⟩)
      · have e3 := e2 (by rintro ⟨h, _⟩; cases h)
        by_cases h5 : 1500 < k
        · rw [if_pos h5] at e3
          exact ref_Write_E_true d s c y l hk hk2 w h1 h2 h5 e3
        · rw [if_neg h5] at e3
          cases hm : meetsB y k
          · rw [hm] at e3
            exact ref_Write_F_true d s c y l hk hk2 w h1 h2 h5 hm e3
          · rw [hm] at e3
            exact ref_Write_true d s c y l hk hk2 w hv hB h1 h2 hc hy h5 hm e3
    · have e := werr_addr (f := ⟨d, s, t, c, y, l⟩) (by rintro ⟨_, h⟩; exact h2 h)
      cases t
      · exact ref_Write_B_false d s c y l hk hk2 w h1 h2 e
      · exact ref_Write_B_true d s c y l hk hk2 w h1 h2 e
  · have e := werr_addr (f := ⟨d, s, t, c, y, l⟩) (by rintro ⟨h, _⟩; exact h1 h)
    cases t
    · exact ref_Write_A_false d s c y l hk hk2 w h1 e
    · exact ref_Write_A_true d s c y l hk hk2 w h1 e
end Go.Proofs.Ythamjkccljhhcaa
