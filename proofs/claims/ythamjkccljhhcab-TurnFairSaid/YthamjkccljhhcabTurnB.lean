/-
  Contracts of layer 7's lists of turns, the program's own: as the numbers' remainders, one by one. No statement is proved here.
-/
import Derived.Test.YthamjkccljhhcabTurn
import Derived.Test.YthamjkccljhhcabRow
import Derived.WalkKit
set_option linter.unusedVariables false
namespace Go.Proofs.Ythamjkccljhhcab
open Go.RowKit

/-- The turns of so many numbers. -/
def turnsL (m c : Int) (g : Int → Int) : List Int := if m < 1 ∨ c < 1 then [] else (List.range (min c.toNat 100000)).map fun (i : Nat) => g (i : Int) % m
theorem who_of (x m : Int) (h0 : 0 ≤ x) (h1 : x < 18446744073709551616) (hm : 1 ≤ m) : whoN (wrap64 x) m = x % m := by
  have e : IntKind.u64.wrap (wrap64 x) = x := by rw [IntKind.wrap_u64]; unfold wrap64; omega
  unfold whoN
  rw [if_neg (by omega), e]
def gRound (i : Int) : Int := i
def gMixed (s : Int) (i : Int) : Int := mixI (IntKind.u64.wrap (s + i))
def gBursts (s d : Int) (i : Int) : Int := gMixed s (i / d)

theorem turn_Round1 (k : Int) (hk : 0 ≤ k ∧ k ≤ 9223372036854775807) (w : World) :
    Calls Try.prog 51 #[.int .i64 k] w fun e w' => e = .returned (.int .u64 (gRound k)) ∧ w = w' := by
  have hw : IntKind.u64.wrap k = k := by rw [IntKind.wrap_u64]; omega
  go_enter Try.func51, Try.ntmps51
  go_wp2
  go_ret
  exact ⟨rfl, rfl⟩
theorem wrap_plus (s k : Int) (hk : 0 ≤ k) (hk2 : k ≤ 9223372036854775807) : IntKind.u64.wrap (s + IntKind.u64.wrap k) = IntKind.u64.wrap (s + k) := by
  rw [IntKind.wrap_u64, IntKind.wrap_u64, IntKind.wrap_u64]; omega
theorem turn_Mixed1 (k s : Int) (b : Nat) (hk : 0 ≤ k ∧ k ≤ 9223372036854775807) (w : World) (hc : w.cell? ⟨b, 0, none⟩ = some (.int .u64 s)) :
    Calls Try.prog 52 #[.int .i64 k, .pointer (some ⟨b, 0, none⟩)] w fun e w' => e = .returned (.int .u64 (gMixed s k)) ∧ w = w' := by
  have HM := Lib.hid fun W => turn_Mix _ (u64_wrap_bd (s + IntKind.u64.wrap k)) W
  have HP := Lib.hid (wrap_plus s k hk.1 hk.2)
  have hw : IntKind.u64.wrap k = k := by rw [IntKind.wrap_u64]; omega
  rw [hw] at HM
  clear HP
  unfold gMixed
  generalize mixI (IntKind.u64.wrap (s + k)) = R at *
  go_enter Try.func52, Try.ntmps52
  go_wp2_with fail
  refine (HM.out _).mono ?_
  rintro e w1 ⟨rfl, rfl⟩
  go_wp2
  go_ret
  exact ⟨rfl, rfl⟩
theorem turn_Bursts1 (k s d : Int) (b b2 : Nat) (hk : 0 ≤ k ∧ k ≤ 9223372036854775807) (hd : 1 ≤ d ∧ d ≤ 9223372036854775807) (w : World) (hc : w.cell? ⟨b, 0, none⟩ = some (.int .u64 s)) (hc2 : w.cell? ⟨b2, 0, none⟩ = some (.int .i64 d)) :
    Calls Try.prog 53 #[.int .i64 k, .pointer (some ⟨b, 0, none⟩), .pointer (some ⟨b2, 0, none⟩)] w (Quiet (.int .u64 (gBursts s d k)) w) := by
  have hq := Int.ediv_nonneg hk.1 (show 0 ≤ d by omega)
  have hq2 := Int.ediv_le_self d hk.1
  have HM := Lib.hid fun W => turn_Mix _ (u64_wrap_bd (s + k / d)) W
  unfold gBursts gMixed
  have hw0 : IntKind.i64.wrap (k.tdiv d) = k / d := by rw [Int.tdiv_eq_ediv_of_nonneg hk.1]; exact IntWalk.i64_in _ (by omega)
  have hw1 : IntKind.u64.wrap (k / d) = k / d := by rw [IntKind.wrap_u64]; omega
  have hd0 : ¬ d = 0 := by omega
  have hwk : wrap64 (k / d) = k / d := IntWalk.wrap64_in _ (by omega)
  generalize mixI (IntKind.u64.wrap (s + k / d)) = R at *
  clear hq hq2 hk hd
  go_enter Try.func53, Try.ntmps53
  go_wp2_with fail
  go_quiet (first | (go_at_call 30; with_reducible exact still0 HM.out _ _) | (go_at_call 30; with_reducible exact still1 HM.out _ _ _))
  go_wp2
  go_ret
  exact ⟨rfl, _, rfl⟩

set_option maxHeartbeats 1600000 in
theorem turns_Round (m c : Int) (hm : 1 ≤ m ∧ m ≤ 9223372036854775807) (hc : 1 ≤ c ∧ c ≤ 9223372036854775807) (w : World) :
    Calls Try.prog 50 #[.int .i64 m, .int .i64 c, .func (.func 51) #[] #[]] w (Ints (turnsL m c gRound) w) := by
  obtain ⟨N, hN⟩ : ∃ N : Nat, N = min c.toNat 100000 := ⟨_, rfl⟩
  have hif : (if (100000 : Int) < c then (100000 : Int) else c) = (N : Int) := by split <;> omega
  have hN1 : N ≤ 100000 := by omega
  have hL : turnsL m c gRound = (List.range N).map fun (i : Nat) => gRound (i : Int) % m := by
    unfold turnsL
    rw [if_neg (by omega), hN]
  have hdm : decide (m < 1) = false := by simp; omega
  have hdc : decide (c < 1) = false := by simp; omega
  have hmk := fun W => run_mkFull (P := Try.prog) W stInts N (by omega)
  have HL := Lib.hid hL
  have HW := Lib.hid fun (k : Nat) W => (turn_Who (wrap64 (gRound (k : Int))) m hm.2 W)
  have HM := Lib.hid hm
  obtain ⟨L, hLL⟩ : ∃ L, L = turnsL m c gRound := ⟨_, rfl⟩
  rw [← hLL] at HL ⊢
  obtain ⟨w0, hw0⟩ : ∃ w0, w0 = w.alloc (.cells (mkC (.int .i64 0) 1 N) 3) := ⟨_, rfl⟩
  have HR0 : Hid (w0.rowIs w.heap.size 3 N (fun _ => .int .i64 0)) := by rw [hw0]; exact rowIs_mk rfl rfl
  have HB0 : Hid (Below w.heap.size w w0) := by rw [hw0]; exact (Below.refl _ _).alloc (Nat.le_refl _) _
  have hmk1 := hmk w
  rw [← hw0] at hmk1
  clear hL hN hLL hmk hw0 hm hc
  go_enter Try.func50, Try.ntmps50
  go_wp2
  clear hif hdm hdc hmk1
  go_loopw [20] (fun i wr => ∃ k : Nat, k ≤ N ∧ i = .int .i64 k ∧ Hid (wr.rowIs w.heap.size 3 N (fun j => .int .i64 (if j < k then gRound (j : Int) % m else 0))) ∧ Hid (Below w.heap.size w wr)) (fun i _ => N - (intOf i).toNat)
  case atStart => exact ⟨0, by omega, rfl, HR0.out.congr fun i hi => by simp, HB0.out⟩
  case round =>
    obtain ⟨k, hk, rfl, HR, HB⟩ := hrel
    by_cases hlt : k < N
    · have hk1 : (k : Int) < (N : Int) := by omega
      have hk0 : (0 : Int) ≤ (k : Int) := Int.natCast_nonneg _
      have HV := Lib.hid (show whoN (wrap64 (gRound (k : Int))) m = gRound (k : Int) % m from who_of _ _ (by unfold gRound; omega) (by unfold gRound; omega) HM.out.1)
      go_wp2_with fail
      refine (turn_Round1 _ ⟨hk0, by omega⟩ _).mono ?_
      rintro e w1 ⟨rfl, rfl⟩
      go_wp2_with fail
      refine (HW.out k _).mono ?_
      rintro e w2 ⟨rfl, rfl⟩
      rw [HV.out]
      have HR2 : Hid ((wr.setCell ⟨w.heap.size, k, none⟩ (.int .i64 (gRound (k : Int) % m))).rowIs w.heap.size 3 N (fun j => .int .i64 (if j < k + 1 then gRound (j : Int) % m else 0))) := by
        refine (HR.out.set k _).congr fun i hi => ?_
        by_cases h1 : i = k
        · simp [h1]
        · by_cases h2 : i < k
          · simp [h1, h2, show i < k + 1 by omega]
          · simp [h1, h2, show ¬ i < k + 1 by omega]
      have HB2 : Hid (Below w.heap.size w (wr.setCell ⟨w.heap.size, k, none⟩ (.int .i64 (gRound (k : Int) % m)))) := HB.out.setCell (Nat.le_refl _) _
      have hcell : wr.cell? ⟨w.heap.size, k, none⟩ = some (.int .i64 0) := by rw [HR.out.cell hlt]; simp
      have hfr : wr.frozen? ⟨w.heap.size, k, none⟩ = false := HR.out.frozen k
      go_wp2
      clear hcell hfr
      go_roundw
      case rel => exact ⟨k + 1, by omega, by go_num, HR2.out, HB2.out⟩
      case measure => simp [intOf]; omega
    · have : k = N := by omega
      subst this
      go_wp2
      go_ret
      exact Ints.row (f := fun j => if j < k then gRound (j : Int) % m else 0) HR.out (by rw [HL.out]; apply List.map_congr_left; intro i hi; simp at hi; simp [hi]) (by simp [maxLen]; omega) HB.out

set_option maxHeartbeats 1600000 in
theorem turns_Mixed (m c : Int) (hm : 1 ≤ m ∧ m ≤ 9223372036854775807) (hc : 1 ≤ c ∧ c ≤ 9223372036854775807) (s : Int) (b : Nat) (w : World) (hcb : w.cell? ⟨b, 0, none⟩ = some (.int .u64 s)) (hlb : b < w.heap.size) :
    Calls Try.prog 50 #[.int .i64 m, .int .i64 c, .func (.func 52) #[] #[.pointer (some ⟨b, 0, none⟩)]] w (Ints (turnsL m c (gMixed s)) w) := by
  obtain ⟨N, hN⟩ : ∃ N : Nat, N = min c.toNat 100000 := ⟨_, rfl⟩
  have hif : (if (100000 : Int) < c then (100000 : Int) else c) = (N : Int) := by split <;> omega
  have hN1 : N ≤ 100000 := by omega
  have hL : turnsL m c (gMixed s) = (List.range N).map fun (i : Nat) => (gMixed s) (i : Int) % m := by
    unfold turnsL
    rw [if_neg (by omega), hN]
  have hdm : decide (m < 1) = false := by simp; omega
  have hdc : decide (c < 1) = false := by simp; omega
  have hmk := fun W => run_mkFull (P := Try.prog) W stInts N (by omega)
  have HL := Lib.hid hL
  have HW := Lib.hid fun (k : Nat) W => (turn_Who (wrap64 ((gMixed s) (k : Int))) m hm.2 W)
  have HM := Lib.hid hm
  have HCB := Lib.hid hcb
  have HLB := Lib.hid hlb
  clear hcb hlb
  obtain ⟨L, hLL⟩ : ∃ L, L = turnsL m c (gMixed s) := ⟨_, rfl⟩
  rw [← hLL] at HL ⊢
  obtain ⟨w0, hw0⟩ : ∃ w0, w0 = w.alloc (.cells (mkC (.int .i64 0) 1 N) 3) := ⟨_, rfl⟩
  have HR0 : Hid (w0.rowIs w.heap.size 3 N (fun _ => .int .i64 0)) := by rw [hw0]; exact rowIs_mk rfl rfl
  have HB0 : Hid (Below w.heap.size w w0) := by rw [hw0]; exact (Below.refl _ _).alloc (Nat.le_refl _) _
  have hmk1 := hmk w
  rw [← hw0] at hmk1
  clear hL hN hLL hmk hw0 hm hc
  go_enter Try.func50, Try.ntmps50
  go_wp2
  clear hif hdm hdc hmk1
  go_loopw [20] (fun i wr => ∃ k : Nat, k ≤ N ∧ i = .int .i64 k ∧ Hid (wr.rowIs w.heap.size 3 N (fun j => .int .i64 (if j < k then (gMixed s) (j : Int) % m else 0))) ∧ Hid (Below w.heap.size w wr)) (fun i _ => N - (intOf i).toNat)
  case atStart => exact ⟨0, by omega, rfl, HR0.out.congr fun i hi => by simp, HB0.out⟩
  case round =>
    obtain ⟨k, hk, rfl, HR, HB⟩ := hrel
    by_cases hlt : k < N
    · have hk1 : (k : Int) < (N : Int) := by omega
      have hk0 : (0 : Int) ≤ (k : Int) := Int.natCast_nonneg _
      have HV := Lib.hid (show whoN (wrap64 ((gMixed s) (k : Int))) m = (gMixed s) (k : Int) % m from who_of _ _ (mixI_bd _).1 (mixI_bd _).2 HM.out.1)
      have hcc : wr.cell? ⟨b, 0, none⟩ = some (.int .u64 s) := (HB.out.cell HLB.out).trans HCB.out
      go_wp2_with fail
      refine (turn_Mixed1 _ s b ⟨hk0, by omega⟩ _ hcc).mono ?_
      rintro e w1 ⟨rfl, rfl⟩
      clear hcc
      go_wp2_with fail
      refine (HW.out k _).mono ?_
      rintro e w2 ⟨rfl, rfl⟩
      rw [HV.out]
      have HR2 : Hid ((wr.setCell ⟨w.heap.size, k, none⟩ (.int .i64 ((gMixed s) (k : Int) % m))).rowIs w.heap.size 3 N (fun j => .int .i64 (if j < k + 1 then (gMixed s) (j : Int) % m else 0))) := by
        refine (HR.out.set k _).congr fun i hi => ?_
        by_cases h1 : i = k
        · simp [h1]
        · by_cases h2 : i < k
          · simp [h1, h2, show i < k + 1 by omega]
          · simp [h1, h2, show ¬ i < k + 1 by omega]
      have HB2 : Hid (Below w.heap.size w (wr.setCell ⟨w.heap.size, k, none⟩ (.int .i64 ((gMixed s) (k : Int) % m)))) := HB.out.setCell (Nat.le_refl _) _
      have hcell : wr.cell? ⟨w.heap.size, k, none⟩ = some (.int .i64 0) := by rw [HR.out.cell hlt]; simp
      have hfr : wr.frozen? ⟨w.heap.size, k, none⟩ = false := HR.out.frozen k
      go_wp2
      clear hcell hfr
      go_roundw
      case rel => exact ⟨k + 1, by omega, by go_num, HR2.out, HB2.out⟩
      case measure => simp [intOf]; omega
    · have : k = N := by omega
      subst this
      go_wp2
      go_ret
      exact Ints.row (f := fun j => if j < k then (gMixed s) (j : Int) % m else 0) HR.out (by rw [HL.out]; apply List.map_congr_left; intro i hi; simp at hi; simp [hi]) (by simp [maxLen]; omega) HB.out

set_option maxHeartbeats 1600000 in
theorem turns_Bursts (m c : Int) (hm : 1 ≤ m ∧ m ≤ 9223372036854775807) (hc : 1 ≤ c ∧ c ≤ 9223372036854775807) (s d : Int) (b b2 : Nat) (hd : 1 ≤ d ∧ d ≤ 9223372036854775807) (w : World) (hcb : w.cell? ⟨b, 0, none⟩ = some (.int .u64 s)) (hlb : b < w.heap.size) (hcb2 : w.cell? ⟨b2, 0, none⟩ = some (.int .i64 d)) (hlb2 : b2 < w.heap.size) :
    Calls Try.prog 50 #[.int .i64 m, .int .i64 c, .func (.func 53) #[] #[.pointer (some ⟨b, 0, none⟩), .pointer (some ⟨b2, 0, none⟩)]] w (Ints (turnsL m c (gBursts s d)) w) := by
  obtain ⟨N, hN⟩ : ∃ N : Nat, N = min c.toNat 100000 := ⟨_, rfl⟩
  have hif : (if (100000 : Int) < c then (100000 : Int) else c) = (N : Int) := by split <;> omega
  have hN1 : N ≤ 100000 := by omega
  have hL : turnsL m c (gBursts s d) = (List.range N).map fun (i : Nat) => (gBursts s d) (i : Int) % m := by
    unfold turnsL
    rw [if_neg (by omega), hN]
  have hdm : decide (m < 1) = false := by simp; omega
  have hdc : decide (c < 1) = false := by simp; omega
  have hmk := fun W => run_mkFull (P := Try.prog) W stInts N (by omega)
  have HL := Lib.hid hL
  have HW := Lib.hid fun (k : Nat) W => (turn_Who (wrap64 ((gBursts s d) (k : Int))) m hm.2 W)
  have HM := Lib.hid hm
  have HCB := Lib.hid hcb
  have HLB := Lib.hid hlb
  have HCB2 := Lib.hid hcb2
  have HLB2 := Lib.hid hlb2
  have HD := Lib.hid hd
  clear hcb hlb hcb2 hlb2 hd
  obtain ⟨L, hLL⟩ : ∃ L, L = turnsL m c (gBursts s d) := ⟨_, rfl⟩
  rw [← hLL] at HL ⊢
  obtain ⟨w0, hw0⟩ : ∃ w0, w0 = w.alloc (.cells (mkC (.int .i64 0) 1 N) 3) := ⟨_, rfl⟩
  have HR0 : Hid (w0.rowIs w.heap.size 3 N (fun _ => .int .i64 0)) := by rw [hw0]; exact rowIs_mk rfl rfl
  have HB0 : Hid (Below w.heap.size w w0) := by rw [hw0]; exact (Below.refl _ _).alloc (Nat.le_refl _) _
  have hmk1 := hmk w
  rw [← hw0] at hmk1
  clear hL hN hLL hmk hw0 hm hc
  go_enter Try.func50, Try.ntmps50
  go_wp2
  clear hif hdm hdc hmk1
  go_loopw [20] (fun i wr => ∃ k : Nat, k ≤ N ∧ i = .int .i64 k ∧ Hid (wr.rowIs w.heap.size 3 N (fun j => .int .i64 (if j < k then (gBursts s d) (j : Int) % m else 0))) ∧ Hid (Below w.heap.size w wr)) (fun i _ => N - (intOf i).toNat)
  case atStart => exact ⟨0, by omega, rfl, HR0.out.congr fun i hi => by simp, HB0.out⟩
  case round =>
    obtain ⟨k, hk, rfl, HR, HB⟩ := hrel
    by_cases hlt : k < N
    · have hk1 : (k : Int) < (N : Int) := by omega
      have hk0 : (0 : Int) ≤ (k : Int) := Int.natCast_nonneg _
      have HV := Lib.hid (show whoN (wrap64 ((gBursts s d) (k : Int))) m = (gBursts s d) (k : Int) % m from who_of _ _ (mixI_bd _).1 (mixI_bd _).2 HM.out.1)
      have hcc : wr.cell? ⟨b, 0, none⟩ = some (.int .u64 s) := (HB.out.cell HLB.out).trans HCB.out
      have hcc2 : wr.cell? ⟨b2, 0, none⟩ = some (.int .i64 d) := (HB.out.cell HLB2.out).trans HCB2.out
      go_wp2_with fail
      refine (turn_Bursts1 _ s d b b2 ⟨hk0, by omega⟩ HD.out _ hcc hcc2).mono ?_
      rintro e w1 ⟨rfl, nq, rfl⟩
      clear hcc hcc2
      go_wp2_with fail
      refine (HW.out k _).mono ?_
      rintro e w2 ⟨rfl, rfl⟩
      rw [HV.out]
      have HR2 : Hid (((wr.drewN nq).setCell ⟨w.heap.size, k, none⟩ (.int .i64 ((gBursts s d) (k : Int) % m))).rowIs w.heap.size 3 N (fun j => .int .i64 (if j < k + 1 then (gBursts s d) (j : Int) % m else 0))) := by
        refine ((show (wr.drewN nq).rowIs w.heap.size 3 N _ from HR.out).set k _).congr fun i hi => ?_
        by_cases h1 : i = k
        · simp [h1]
        · by_cases h2 : i < k
          · simp [h1, h2, show i < k + 1 by omega]
          · simp [h1, h2, show ¬ i < k + 1 by omega]
      have HB2 : Hid (Below w.heap.size w ((wr.drewN nq).setCell ⟨w.heap.size, k, none⟩ (.int .i64 ((gBursts s d) (k : Int) % m)))) := (below_drewN HB.out nq).setCell (Nat.le_refl _) _
      have hcell : wr.cell? ⟨w.heap.size, k, none⟩ = some (.int .i64 0) := by rw [HR.out.cell hlt]; simp
      have hfr : wr.frozen? ⟨w.heap.size, k, none⟩ = false := HR.out.frozen k
      go_wp2
      clear hcell hfr
      go_roundw
      case rel => exact ⟨k + 1, by omega, by go_num, HR2.out, HB2.out⟩
      case measure => simp [intOf]; omega
    · have : k = N := by omega
      subst this
      go_wp2
      go_ret
      exact Ints.row (f := fun j => if j < k then (gBursts s d) (j : Int) % m else 0) HR.out (by rw [HL.out]; apply List.map_congr_left; intro i hi; simp at hi; simp [hi]) (by simp [maxLen]; omega) HB.out

theorem turns_none (m c : Int) (fv : Value) (h : m < 1 ∨ c < 1) (w : World) :
    Calls Try.prog 50 #[.int .i64 m, .int .i64 c, fv] w fun e w' => e = .returned (.slice none 0 0) ∧ w = w' := by
  by_cases hm : m < 1
  · have hd : decide (m < 1) = true := by simpa using hm
    go_enter Try.func50, Try.ntmps50
    go_wp2
    go_ret
    exact ⟨rfl, rfl⟩
  · have hd : decide (m < 1) = false := by simpa using hm
    have hc : decide (c < 1) = true := by simp; omega
    clear h
    go_enter Try.func50, Try.ntmps50
    go_wp2
    go_ret
    exact ⟨rfl, rfl⟩
theorem turnsL_none {m c : Int} (h : m < 1 ∨ c < 1) (g : Int → Int) : turnsL m c g = [] := if_pos h
theorem Ints.under {l : List Int} {w0 w : World} {e : Ending} {w' : World} (h : Ints l w e w') (hb : Below w0.heap.size w0 w) : Ints l w0 e w' := by
  obtain ⟨A, cap, h1, h2, h3⟩ := h
  exact ⟨A, cap, h1, h2, hb.trans (h3.mono hb.size)⟩
theorem turn_Round (m c : Int) (hm : m ≤ 9223372036854775807) (hc : c ≤ 9223372036854775807) (w : World) :
    Calls Try.prog 33 #[.int .i64 m, .int .i64 c] w (Ints (turnsL m c gRound) w) := by
  by_cases h : m < 1 ∨ c < 1
  · rw [turnsL_none h]
    have H := Lib.hid fun fv W => turns_none m c fv h W
    clear h
    go_enter Try.func33, Try.ntmps33
    go_wp2_with fail
    refine (H.out _ _).mono ?_
    rintro e w1 ⟨rfl, rfl⟩
    go_wp2
    go_ret
    exact Ints.nil _ _ (Below.refl _ _)
  · have H := Lib.hid (turns_Round m c (by omega) (by omega))
    clear h
    go_enter Try.func33, Try.ntmps33
    go_wp2_with fail
    refine (H.out _).mono ?_
    rintro e w1 ⟨A, cap, rfl, h2, h3⟩
    have H2 := Lib.hid h2
    have H3 := Lib.hid h3
    clear h2 h3
    go_wp2
    go_ret
    exact ⟨A, cap, rfl, H2.out, H3.out⟩
set_option maxHeartbeats 800000 in
theorem turn_Mixed (m c s : Int) (hm : m ≤ 9223372036854775807) (hc : c ≤ 9223372036854775807) (w : World) :
    Calls Try.prog 35 #[.int .i64 m, .int .i64 c, .int .u64 s] w (Ints (turnsL m c (gMixed s)) w) := by
  by_cases h : m < 1 ∨ c < 1
  · rw [turnsL_none h]
    have H := Lib.hid fun fv W => turns_none m c fv h W
    clear h
    go_enter Try.func35, Try.ntmps35
    go_wp2_with fail
    refine (H.out _ _).mono ?_
    rintro e w1 ⟨rfl, rfl⟩
    go_wp2
    go_ret
    exact Ints.nil _ _ ((Below.refl _ _).alloc (Nat.le_refl _) _)
  · have H := Lib.hid (turns_Mixed m c (by omega) (by omega) s)
    clear h
    go_enter Try.func35, Try.ntmps35
    go_wp2_with fail
    refine (H.out _ _ (by simp [go_sem]) (by simp)).mono ?_
    rintro e w1 ⟨A, cap, rfl, h2, h3⟩
    have H2 := Lib.hid h2
    have H3 := Lib.hid (((Below.refl w.heap.size w).alloc (Nat.le_refl _) (.cells #[.int .u64 s] 23)).trans (h3.mono (by simp)))
    clear h2 h3
    go_wp2
    go_ret
    exact ⟨A, cap, rfl, H2.out, H3.out⟩

set_option maxHeartbeats 800000 in
theorem turn_BurstsA (m c l s : Int) (hm : m ≤ 9223372036854775807) (hc : c ≤ 9223372036854775807) (hl : l ≤ 9223372036854775807) (hx : 1 ≤ l) (w : World) :
    Calls Try.prog 37 #[.int .i64 m, .int .i64 c, .int .i64 l, .int .u64 s] w (Ints (turnsL m c (gBursts s l)) w) := by
  by_cases h : m < 1 ∨ c < 1
  · rw [turnsL_none h]
    have H := Lib.hid fun fv W => turns_none m c fv h W
    clear h
    go_enter Try.func37, Try.ntmps37
    go_wp2_with fail
    refine (H.out _ _).mono ?_
    rintro e w1 ⟨rfl, rfl⟩
    go_wp2
    go_ret
    exact Ints.nil _ _ (((Below.refl _ _).alloc (Nat.le_refl _) _).alloc (by simp) _)
  · have H := Lib.hid (turns_Bursts m c (by omega) (by omega) s l)
    clear h
    go_enter Try.func37, Try.ntmps37
    go_wp2_with fail
    refine (H.out (w.heap.size + 1) w.heap.size (by omega) _ (by simp [go_sem]) (by simp) (by simp [go_sem]) (by simp; omega)).mono ?_
    rintro e w1 ⟨A, cap, rfl, h2, h3⟩
    have H2 := Lib.hid h2
    have H3 := Lib.hid ((((Below.refl w.heap.size w).alloc (Nat.le_refl _) (.cells #[.int .i64 l] 3)).alloc (by simp) (.cells #[.int .u64 s] 23)).trans (h3.mono (by simp; omega)))
    clear h2 h3
    go_wp2
    go_ret
    exact ⟨A, cap, rfl, H2.out, H3.out⟩

set_option maxHeartbeats 800000 in
theorem turn_BurstsB (m c l s : Int) (hm : m ≤ 9223372036854775807) (hc : c ≤ 9223372036854775807) (hl : l ≤ 9223372036854775807) (hx : l < 1) (w : World) :
    Calls Try.prog 37 #[.int .i64 m, .int .i64 c, .int .i64 l, .int .u64 s] w (Ints (turnsL m c (gBursts s 1)) w) := by
  by_cases h : m < 1 ∨ c < 1
  · rw [turnsL_none h]
    have H := Lib.hid fun fv W => turns_none m c fv h W
    clear h
    go_enter Try.func37, Try.ntmps37
    go_wp2_with fail
    refine (H.out _ _).mono ?_
    rintro e w1 ⟨rfl, rfl⟩
    go_wp2
    go_ret
    exact Ints.nil _ _ (((Below.refl _ _).alloc (Nat.le_refl _) _).alloc (by simp) _)
  · have H := Lib.hid (turns_Bursts m c (by omega) (by omega) s 1)
    clear h
    go_enter Try.func37, Try.ntmps37
    go_wp2_with fail
    refine (H.out (w.heap.size + 1) w.heap.size (by omega) _ (by simp [go_sem]) (by simp) (by simp [go_sem]) (by simp; omega)).mono ?_
    rintro e w1 ⟨A, cap, rfl, h2, h3⟩
    have H2 := Lib.hid h2
    have H3 := Lib.hid ((((Below.refl w.heap.size w).alloc (Nat.le_refl _) (.cells #[.int .i64 1] 3)).alloc (by simp) (.cells #[.int .u64 s] 23)).trans (h3.mono (by simp; omega)))
    clear h2 h3
    go_wp2
    go_ret
    exact ⟨A, cap, rfl, H2.out, H3.out⟩
theorem turn_Bursts (m c l s : Int) (hm : m ≤ 9223372036854775807) (hc : c ≤ 9223372036854775807) (hl : l ≤ 9223372036854775807) (w : World) :
    Calls Try.prog 37 #[.int .i64 m, .int .i64 c, .int .i64 l, .int .u64 s] w (Ints (turnsL m c (gBursts s (max l 1))) w) := by
  by_cases h : l < 1
  · rw [show max l 1 = 1 by omega]; exact turn_BurstsB m c l s hm hc hl h w
  · rw [show max l 1 = l by omega]; exact turn_BurstsA m c l s hm hc hl (by omega) w
end Go.Proofs.Ythamjkccljhhcab
