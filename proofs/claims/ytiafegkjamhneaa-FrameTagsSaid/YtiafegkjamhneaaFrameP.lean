/-
  Which VLAN and priority a frame's tag tells: the program's Vid and Prio. No statement is proved here.
-/
import Derived.Test.YtiafegkjamhneaaFrameX
import Derived.Test.YtiafegkjamhneaaPlainOut
namespace Go.Proofs.Ytiafegkjamhneaa
open Go.RowKit

set_option maxHeartbeats 400000 in
theorem frame_VidT (d s c y : Nat) (t : Bool) (lv : Value) (hc : c < 65536) (w : World) :
    Calls Try.prog 24 #[.agg #[.int .u64 (d : Nat), .int .u64 (s : Nat), .bool t, .int .u16 (c : Nat), .int .u16 (y : Nat), lv]] w (Says (.int .i64 ((c % 4096 : Nat) : Int)) w) := by
  have hq : bits .and .u16 (c : Int) 4095 = ((c % 4096 : Nat) : Int) := by
    have := u16_and_nat c 4095 (by omega) (by omega)
    rw [and_vid] at this
    exact this
  obtain ⟨v, hv⟩ : ∃ v, v = c % 4096 := ⟨_, rfl⟩
  have hvl : v < 4096 := by omega
  rw [← hv] at hq ⊢
  clear hv
  go_enter Try.func24, Try.ntmps24
  go_wp2
  go_ret
  exact ⟨rfl, (Below.refl _ _).alloc (Nat.le_refl _) _⟩
set_option maxHeartbeats 400000 in
theorem frame_PrioT (d s c y : Nat) (t : Bool) (lv : Value) (hc : c < 65536) (w : World) :
    Calls Try.prog 25 #[.agg #[.int .u64 (d : Nat), .int .u64 (s : Nat), .bool t, .int .u16 (c : Nat), .int .u16 (y : Nat), lv]] w (Says (.int .i64 ((if t then c / 8192 else 0 : Nat) : Int)) w) := by
  cases t
  · go_enter Try.func25, Try.ntmps25
    go_wp2
    go_ret
    exact ⟨rfl, (Below.refl _ _).alloc (Nat.le_refl _) _⟩
  · have h1 : (c : Int) / 8192 ≤ 7 := by omega
    have h2 : 0 ≤ (c : Int) / 8192 := by omega
    go_enter Try.func25, Try.ntmps25
    go_wp2
    go_ret
    exact ⟨ret_i64 (by simp), (Below.refl _ _).alloc (Nat.le_refl _) _⟩
end Go.Proofs.Ytiafegkjamhneaa
