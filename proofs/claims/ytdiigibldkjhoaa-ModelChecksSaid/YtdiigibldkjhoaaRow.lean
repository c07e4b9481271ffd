/-
  Rows that a call makes whole and stores to, as functions of their places; lists of ints, as results. No statement is proved here.
-/
import Derived.Test.YtdiigibldkjhoaaKit
import Derived.Test.YtdiigibldkjhoaaKit2
import Derived.Test.YtdiigibldkjhoaaBase3
import Derived.Test.YtdiigibldkjhoaaWords
import Derived.Deep.OwnRows
import Derived.IntWalk
set_option linter.unusedVariables false
namespace Go.Proofs.Ytdiigibldkjhoaa
open Go.RowKit

theorem stInts : ST Try.prog 55 3 (.int .i64 0) 1 8 := ST.mk Try.underlying55 (by kernel_rfl) rfl (by omega) (by omega)
/-- A row that was made whole. -/
theorem rowIs_mk {w : World} {g M : Nat} {z : Value} {e : TypeId} (hz : z.cells = #[z]) (hg : w.heap.size = g) : (w.alloc (.cells (mkC z 1 M) e)).rowIs g e M (fun _ => z) := by
  subst hg
  unfold mkC
  rw [hz, Nat.mul_one]
  exact World.rowIs_made w z M e
theorem rowIs_own {w : World} {B g M : Nat} {e : TypeId} {f : Nat → Value} (h : w.rowIs g e M f) (hB : B ≤ g) (hM : M ≤ maxLen) : w.ownsRow B e 1 (.slice (some ⟨g, 0, none⟩) M M) M ((List.range M).map f) := by
  obtain ⟨cs, h1, h2, h3⟩ := h
  refine own_full h1 hB h2 hM ?_
  apply List.ext_getElem
  · simp [h2]
  · intro i hi1 hi2
    simp at hi1 hi2
    have := h3 i (by omega)
    rw [Array.getElem?_eq_getElem hi1] at this
    simp at this
    simp [this]
/-- A list of ints, as a row of the call's own. -/
def Ints (l : List Int) (w : World) (e : Ending) (w' : World) : Prop :=
  ∃ A cap, e = .returned (.slice A l.length cap) ∧ Sl w' w'.heap.size 1 (.slice A l.length cap) l.length (kv .i64 l) ∧ Below w.heap.size w w'
theorem Ints.nil (w w' : World) (h : Below w.heap.size w w') : Ints [] w (.returned (.slice none 0 0)) w' := ⟨none, 0, rfl, by simpa [kv] using Sl.nil _ _ _, h⟩
theorem Ints.row {w w' : World} {g M : Nat} {e : TypeId} {f : Nat → Int} {l : List Int} (h : w'.rowIs g e M (fun j => .int .i64 (f j))) (hl : l = (List.range M).map f) (hM : M ≤ maxLen) (hb : Below w.heap.size w w') :
    Ints l w (.returned (.slice (some ⟨g, 0, none⟩) M M)) w' := by
  have hlen : l.length = M := by rw [hl]; simp
  refine ⟨some ⟨g, 0, none⟩, M, by rw [hlen], ?_, hb⟩
  rw [hlen]
  have := Sl.of_own (rowIs_own h (Nat.zero_le _) hM)
  rw [hl]
  unfold kv
  rw [List.map_map]
  exact this
theorem kv_getElem? (κ : IntKind) (l : List Int) (k : Nat) (h : k < l.length) : (kv κ l)[k]? = some (.int κ (l.getD k 0)) := by
  simp [kv, List.getD_eq_getElem?_getD, List.getElem?_eq_getElem h]
theorem kv_append (κ : IntKind) (a b : List Int) : kv κ (a ++ b) = kv κ a ++ kv κ b := by simp [kv]

set_option maxHeartbeats 800000 in
theorem law3_IntsEq {l : List Int} {n : Nat} {u v : Value} {w : World} {B B' : Nat} (hu : Sl w B 1 u n (kv .i64 l)) (hv : Sl w B' 1 v n (kv .i64 l)) :
    Calls Try.prog 26 #[u, v] w (Quiet (.bool true) w) := by
  have hlen : l.length = n := by have := hu.len; rw [kv_length] at this; omega
  obtain ⟨_, A, cap, rfl, hA1, hA2, hA⟩ := hu
  obtain ⟨_, A', cap', rfl, hA1', hA2', hA'⟩ := hv
  unfold maxLen at hA2 hA2'
  have hne : ((n : Int) != (n : Int)) = false := by simp
  have HL := Lib.hid hlen
  have HA := Lib.hid hA
  have HA' := Lib.hid hA'
  clear hlen hA hA'
  go_enter Try.func26, Try.ntmps26
  go_wp2
  go_loopw [5] (fun i wr => ∃ k : Nat, k ≤ n ∧ i = .int .i64 k ∧ ∃ m, wr = w.drewN m) (fun i _ => n - (intOf i).toNat)
  case atStart => exact ⟨0, by omega, rfl, 0, rfl⟩
  case round =>
    obtain ⟨k, hk, rfl, m, rfl⟩ := hrel
    by_cases hlt : k < n
    · obtain ⟨b, off, rfl, _, hc⟩ := HA.out (by omega)
      obtain ⟨b', off', rfl, _, hc'⟩ := HA'.out (by omega)
      have hx := kv_getElem? .i64 l k (by have := HL.out; omega)
      have hcell := (hc k (by omega)).trans hx
      have hcell' := (hc' k (by omega)).trans hx
      clear hc hc' HA HA' hx
      have g0 : (0 : Int) ≤ (k : Int) := Int.natCast_nonneg _
      have g1 : (k : Int) < (n : Int) := by omega
      generalize l.getD k 0 = x at *
      go_wp2_with fail
      go_quiet (fail)
      go_wp2
      go_roundw
      case rel => exact ⟨k + 1, by omega, by go_num, _, (by first | rfl | exact World.drewN_drewN _ _ _)⟩
      case measure => simp [intOf]; omega
    · have : k = n := by omega
      subst this
      go_wp2
      go_ret
      exact ⟨rfl, _, rfl⟩
end Go.Proofs.Ytdiigibldkjhoaa
