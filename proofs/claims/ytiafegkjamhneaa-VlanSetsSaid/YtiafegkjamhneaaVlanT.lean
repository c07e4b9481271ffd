/-
  Layer 3's own look: a frame's VLAN is told, whether it may come in, and where it may go out. No statement is proved here.
-/
import Derived.Test.YtiafegkjamhneaaVlanC
import Derived.Test.YtiafegkjamhneaaVlanE
import Derived.Test.YtiafegkjamhneaaFrameT
import Derived.Test.YtiafegkjamhneaaBase3
namespace Go.Proofs.Ytiafegkjamhneaa
open Go.RowKit

/-- A row of n elements that was just laid, whole. -/
theorem Sl.litN (w : World) (cs : Array Value) (e : TypeId) (n size : Nat) (hs : cs.size = n * size) (hm : n ≤ maxLen) : Sl (w.alloc (.cells cs e)) (w.heap.size + 1) size (.slice (some ⟨w.heap.size, 0, none⟩) n n) n cs.toList := by
  refine ⟨by simpa using hs, _, n, rfl, Nat.le_refl _, hm, fun _ => ⟨w.heap.size, 0, rfl, by omega, fun j hj => ?_⟩⟩
  simp [go_sem]
theorem cls60a : clsN z60 7 0 = (7, 0) := by decide
theorem cls60b : clsN z60 7 1 = (0, 6) := by decide
def vls7 : List Vl := [⟨7, 6, 0⟩]
theorem vls7_ok : ∀ x ∈ vls7, x.ok := by
  intro x hx
  simp [vls7] at hx
  subst hx
  simp [Vl.ok]
theorem ent7 : enterN vls7 7 1 1 = 0 := by decide
theorem ent8 : enterN vls7 8 1 1 = 7 := by decide
theorem lea7 : leaveN vls7 7 1 1 = 4 := by decide

set_option maxRecDepth 100000 in
set_option maxHeartbeats 2000000 in
theorem told03 (w : World) : Calls Try.prog 30 #[] w (Says (.bool true) w) := by
  have hmk : ∀ W : World, (Instr.makeSlice 22 (.int .i64 60) (.int .i64 60)).run Try.prog W = .ok (.slice (some ⟨W.heap.size, 0, none⟩) 60 60) (W.alloc (.cells (byteBlock z60) 5)) := fun _ => by kernel_rfl
  have s0 : Sl (w.alloc (.cells (byteBlock z60) 5)) (w.heap.size + 1) 1 (.slice (some ⟨w.heap.size, 0, none⟩) 60 60) 60 (bv z60) := Sl.lit w (byteBlock z60) _ 60 rfl (by decide)
  have c1 : ∀ v W B, Sl W B 1 v 60 (bv z60) → B ≤ W.heap.size → Calls Try.prog 32 #[v, .agg #[.int .i64 7, .int .i64 0]] W fun e w' => e = .returned (.tuple #[.int .i64 7, .int .i64 0]) ∧ Below W.heap.size W w' := by
    intro v W B h1 h2
    have := vlan_Class z60_lt z60_len h1 h2 7 0
    rw [cls60a] at this
    exact this
  have c2 : ∀ v W B, Sl W B 1 v 60 (bv z60) → B ≤ W.heap.size → Calls Try.prog 32 #[v, .agg #[.int .i64 7, .int .i64 1]] W fun e w' => e = .returned (.tuple #[.int .i64 0, .int .i64 6]) ∧ Below W.heap.size W w' := by
    intro v W B h1 h2
    have := vlan_Class z60_lt z60_len h1 h2 7 1
    rw [cls60b] at this
    exact this
  have d1 : ∀ v W B, Sl W B 3 v 1 (vlc vls7) → B ≤ W.heap.size → Calls Try.prog 37 #[v, .int .i64 7, .int .i64 1] W (Says (.int .i64 0) W) := by
    intro v W B h1 h2
    have := vlan_Enter vls7_ok h1 h2 7 1
    rw [ent7] at this
    exact this
  have d2 : ∀ v W B, Sl W B 3 v 1 (vlc vls7) → B ≤ W.heap.size → Calls Try.prog 35 #[v, .int .i64 7, .int .i64 1] W (Says (.int .u64 4) W) := by
    intro v W B h1 h2
    have := vlan_Leave vls7_ok h1 h2 7 1
    rw [lea7] at this
    exact this
  have d3 : ∀ v W B, Sl W B 3 v 1 (vlc vls7) → B ≤ W.heap.size → Calls Try.prog 37 #[v, .int .i64 8, .int .i64 1] W (Says (.int .i64 7) W) := by
    intro v W B h1 h2
    have := vlan_Enter vls7_ok h1 h2 8 1
    rw [ent8] at this
    exact this
  have S0 := Lib.hid s0
  have C1 := Lib.hid c1
  have C2 := Lib.hid c2
  have D1 := Lib.hid d1
  have D2 := Lib.hid d2
  have D3 := Lib.hid d3
  clear s0 c1 c2 d1 d2 d3
  go_enter Try.func30, Try.ntmps30
  go_wp2_with fail
  refine Calls.mono (C1.out _ _ _ S0.out (by simp)) ?_
  rintro e w1 ⟨rfl, hb1⟩
  have hz1 : w.heap.size + 1 ≤ w1.heap.size := by simpa using hb1.size
  have HB1 := Lib.hid (((Below.refl w.heap.size w).alloc (Nat.le_refl _) (.cells (byteBlock z60) 5)).trans (hb1.mono (by simp)))
  have SA := Lib.hid (S0.out.below (hb1.mono (by simp)))
  clear hb1
  go_wp2_with fail
  refine Calls.mono (C2.out _ _ _ SA.out (by omega)) ?_
  rintro e w2 ⟨rfl, hb2⟩
  have HB2 := Lib.hid (HB1.out.trans (hb2.mono (by omega)))
  have hz2 := hb2.size
  clear hb2
  have S2 : Hid (Sl (w2.alloc (.cells #[.int .i64 7, .int .u64 6, .int .u64 0] 107)) (w2.heap.size + 1) 3 (.slice (some ⟨w2.heap.size, 0, none⟩) 1 1) 1 (vlc vls7)) := Sl.litN w2 #[.int .i64 7, .int .u64 6, .int .u64 0] _ 1 3 rfl (by decide)
  have HB2a := Lib.hid (HB2.out.alloc (by omega) (.cells #[.int .i64 7, .int .u64 6, .int .u64 0] 107))
  go_wp2_with fail
  refine Calls.mono (D1.out _ _ _ S2.out (by simp)) ?_
  rintro e w3 ⟨rfl, hb3⟩
  have hz3 : w2.heap.size + 1 ≤ w3.heap.size := by simpa using hb3.size
  have HB3 := Lib.hid (HB2a.out.trans (hb3.mono (by simp; omega)))
  have S3 := Lib.hid (S2.out.below (hb3.mono (by simp)))
  clear hb3
  go_wp2_with fail
  refine Calls.mono (D2.out _ _ _ S3.out (by omega)) ?_
  rintro e w4 ⟨rfl, hb4⟩
  have HB4 := Lib.hid (HB3.out.trans (hb4.mono (by omega)))
  have hz4 := hb4.size
  have S4 := Lib.hid (S3.out.below (hb4.mono (by omega)))
  clear hb4
  go_wp2_with fail
  refine Calls.mono (D3.out _ _ _ S4.out (by omega)) ?_
  rintro e w5 ⟨rfl, hb5⟩
  have HB5 := Lib.hid (HB4.out.trans (hb5.mono (by omega)))
  clear hb5
  go_wp2
  go_ret
  exact ⟨by simp, HB5.out⟩
end Go.Proofs.Ytiafegkjamhneaa
