/-
  Contracts of layer 2's small functions, the program's own and the document's. No statement is proved here.
-/
import Derived.Test.YthamjkccljhhcaaMac
namespace Go.Proofs.Ythamjkccljhhcaa
open Go.RowKit

/-- A cell of a byte slice, n elements. -/
theorem cell_bn {w : World} {b off n : Nat} {l : List Nat} (hl : l.length = n) (h : ∀ j, j < n * 1 → w.cell? ⟨b, off + j, none⟩ = (bv l)[j]?) {k : Nat} (hk : k < n) : w.cell? ⟨b, off + k, none⟩ = some (.int .u8 ((l.getD k 0 : Nat) : Int)) := by
  subst hl
  exact cell_bv h hk

set_option maxHeartbeats 400000 in
theorem frame_number {l : List Nat} {n : Nat} (h2 : 2 ≤ n) (hl : ∀ x ∈ l, x < 256) {v : Value} {w : World} {B : Nat} (hv : Sl w B 1 v n (bv l)) :
    Calls Try.prog 50 #[v] w (Quiet (.int .u16 (num2 l 0 : Nat)) w) := by
  obtain ⟨b, off, cap, rfl, hcap, hmx, hB, hc⟩ := hv.at_ (by omega)
  unfold maxLen at hmx
  have hll : l.length = n := Sl.length hv
  have c0 := cell_bn hll hc (k := 0) (by omega)
  have c1 := cell_bn hll hc (k := 1) (by omega)
  have b0 := getD_lt hl 0
  have b1 := getD_lt hl 1
  have hn : num2 l 0 = l.getD 0 0 * 256 + l.getD 1 0 := rfl
  rw [hn]
  generalize l.getD 0 0 = x at *
  generalize l.getD 1 0 = y at *
  have hor : bits .or .u16 ((x : Int) * 256) (y : Int) = (x : Int) * 256 + (y : Int) := by
    have := u16_or_nat (x * 256) y (by omega) (by omega)
    rw [or_byte x y b1] at this
    simpa using this
  have hw : IntKind.u16.wrap ((x : Int) * 256) = (x : Int) * 256 := IntWalk.u16_in _ (by omega)
  simp only [Nat.add_zero] at c0
  clear hc hv hn hl
  go_enter Try.func50, Try.ntmps50
  go_wp2_with fail
  go_quiet (fail)
  go_wp2
  go_ret
  exact ⟨ret_u16 (by simp), _, rfl⟩

set_option maxHeartbeats 400000 in
theorem ref_two {l : List Nat} {n i : Nat} (h2 : i + 1 < n) (hl : ∀ x ∈ l, x < 256) {v : Value} {w : World} {B : Nat} (hv : Sl w B 1 v n (bv l)) :
    Calls Try.prog 53 #[v, .int .i64 (i : Int)] w (Quiet (.int .u16 (num2 l i : Nat)) w) := by
  obtain ⟨b, off, cap, rfl, hcap, hmx, hB, hc⟩ := hv.at_ (by omega)
  unfold maxLen at hmx
  have hll : l.length = n := Sl.length hv
  have c0 := cell_bn hll hc (k := i) (by omega)
  have c1 := cell_bn hll hc (k := i + 1) (by omega)
  have b0 := getD_lt hl i
  have b1 := getD_lt hl (i + 1)
  have hn : num2 l i = l.getD i 0 * 256 + l.getD (i + 1) 0 := rfl
  rw [hn]
  generalize l.getD i 0 = x at *
  generalize l.getD (i + 1) 0 = y at *
  have g0 : (0 : Int) ≤ (i : Int) := Int.natCast_nonneg _
  have g1 : (i : Int) < (n : Int) := by omega
  have g2 : (i : Int) + 1 < (n : Int) := by omega
  have g3 : (0 : Int) ≤ (i : Int) + 1 := by omega
  have hwi : IntKind.i64.wrap ((i : Int) + 1) = (i : Int) + 1 := IntWalk.i64_in _ (by omega)
  have hti : ((i : Int) + 1).toNat = i + 1 := by omega
  have hw : IntKind.u16.wrap ((x : Int) * 256) = (x : Int) * 256 := IntWalk.u16_in _ (by omega)
  have hw2 : IntKind.u16.wrap ((x : Int) * 256 + (y : Int)) = (x : Int) * 256 + (y : Int) := IntWalk.u16_in _ (by omega)
  clear hc hv hn hl
  go_enter Try.func53, Try.ntmps53
  go_wp2_with fail
  go_quiet (fail)
  go_wp2
  go_ret
  exact ⟨ret_u16 (by simp), _, rfl⟩

set_option maxHeartbeats 400000 in
theorem ref_Tagged {l : List Nat} {n : Nat} (h2 : 14 ≤ n) (hl : ∀ x ∈ l, x < 256) {v : Value} {w : World} {B : Nat} (hv : Sl w B 1 v n (bv l)) :
    Calls Try.prog 52 #[v] w fun e w' => e = .returned (.bool (tagB l)) ∧ w = w' := by
  obtain ⟨b, off, cap, rfl, hcap, hmx, hB, hc⟩ := hv.at_ (by omega)
  unfold maxLen at hmx
  have hll : l.length = n := Sl.length hv
  have c0 := cell_bn hll hc (k := 12) (by omega)
  have c1 := cell_bn hll hc (k := 13) (by omega)
  have hn := tagB_iff hl
  generalize l.getD 12 0 = x at *
  generalize l.getD 13 0 = y at *
  have HN := Lib.hid hn
  clear hc hv hn hl
  go_enter Try.func52, Try.ntmps52
  go_wp2
  all_goals go_ret
  all_goals refine ⟨ret_bool ?_, rfl⟩
  all_goals rw [Bool.eq_iff_iff, HN.out]
  all_goals simp only [beq_iff_eq, Bool.false_eq_true, false_iff, not_and] at *
  all_goals omega

set_option maxHeartbeats 400000 in
theorem frame_meets (k : Nat) (n : Int) (hn : 0 ≤ n) (w : World) :
    Calls Try.prog 73 #[.int .u16 (k : Int), .int .i64 n] w fun e w' => e = .returned (.bool (meetsB k n.toNat)) ∧ w = w' := by
  go_enter Try.func73, Try.ntmps73
  go_wp2
  all_goals go_ret
  all_goals refine ⟨ret_bool ?_, rfl⟩
  all_goals unfold meetsB
  all_goals rw [decide_eq_decide]
  all_goals omega

set_option maxHeartbeats 400000 in
theorem ref_form (k : Nat) (n : Int) (hn : 0 ≤ n) (w : World) :
    Calls Try.prog 54 #[.int .u16 (k : Int), .int .i64 n] w fun e w' => e = .returned (.bool (meetsB k n.toNat)) ∧ w = w' := by
  go_enter Try.func54, Try.ntmps54
  go_wp2
  all_goals go_ret
  all_goals refine ⟨ret_bool ?_, rfl⟩
  all_goals unfold meetsB
  all_goals rw [Bool.eq_iff_iff]
  all_goals simp
  all_goals omega
end Go.Proofs.Ythamjkccljhhcaa
