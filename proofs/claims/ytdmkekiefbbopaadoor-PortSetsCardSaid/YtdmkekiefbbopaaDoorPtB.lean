/-
  Ports: stands out of words, and set, the program's own and the document's. No statement is proved here.
-/
import Derived.Test.YtdmkekiefbbopaaDoorPtA
import Derived.StillTailTactics
set_option linter.unusedVariables false
namespace Go.Proofs.YtdmkekiefbbopaaDoor
open Go.RowKit

theorem of_no {a : Nat} (h : okS a = false) : stateW a = 0 ∧ epochW a = 0 := by
  unfold stateW epochW; rw [h]; exact ⟨rfl, rfl⟩
theorem of_yes {a : Nat} (h : okS a = true) : stateW a = a % 256 ∧ epochW a = a / 256 := by
  unfold stateW epochW; rw [h]; exact ⟨rfl, rfl⟩

set_option maxHeartbeats 1600000 in
theorem port_Of (a : Nat) (ha : a < 18446744073709551616) (w : World) : Calls Tryd.prog 6 #[.int .u64 (a : Int)] w (Says (.tuple #[.agg #[.int .i64 (stateW a : Int), .int .u32 (epochW a : Int)], .bool (okS a)]) w) := by
  have h1 : bits .and .u64 (a : Int) 255 = ((a % 256 : Nat) : Int) := by
    have := u64_and_nat a 255 ha (by omega)
    rw [and_255] at this
    exact this
  have hyes : a % 256 ≤ 4 → a < 1099511627776 → okS a = true ∧ (stateW a : Int) = ((a % 256 : Nat) : Int) ∧ (epochW a : Int) = IntKind.u32.wrap ((a : Int) / 256) := fun g1 g2 => by
    have hk := okS_iff.2 ⟨g2, g1⟩
    refine ⟨hk, by rw [(of_yes hk).1], ?_⟩
    rw [(of_yes hk).2, IntKind.wrap_u32]
    omega
  have hno : ¬ (a < 1099511627776 ∧ a % 256 ≤ 4) → okS a = false ∧ (stateW a : Int) = 0 ∧ (epochW a : Int) = 0 := fun g => by
    have hk := okS_no g
    exact ⟨hk, by rw [(of_no hk).1]; rfl, by rw [(of_no hk).2]; rfl⟩
  have hw1 : wrap64 ((a % 256 : Nat) : Int) = ((a % 256 : Nat) : Int) := IntWalk.wrap64_in _ (by omega)
  have hR := fun W => port_Right ((a % 256 : Nat) : Int) W
  by_cases g1 : a % 256 ≤ 4
  · rw [rightS_iff.2 ⟨by omega, by omega⟩] at hR
    by_cases g2 : a < 1099511627776
    · have hz : (((a : Int) / 1099511627776) != 0) = false := by
        have : (a : Int) / 1099511627776 = 0 := by omega
        rw [this]; rfl
      obtain ⟨e1, e2, e3⟩ := hyes g1 g2
      rw [e1, e2, e3]
      have HR := Lib.hid hR
      clear hR hyes hno e1 e2 e3 g1 g2 ha
      generalize ((a % 256 : Nat) : Int) = S at *
      generalize hE : IntKind.u32.wrap ((a : Int) / 256) = E at *
      generalize (a : Int) = a at *
      go_enter Tryd.func6, Tryd.ntmps6
      go_wp2_with fail
      refine (HR.out _).mono ?_
      rintro e w1 ⟨rfl, rfl⟩
      go_wp2
      exact bodyPost_ret (v := .tuple #[.agg #[.int .i64 S, .int .u32 E], .bool true]) (by first | (simp [results, Tryd.results6, go_sem]; done) | (simp_all [results, Tryd.results6, go_sem]; done)) rfl ⟨rfl, (by (repeat' (first | (with_reducible exact Below.refl _ _) | (with_reducible assumption) | (with_reducible refine Below.setCell ?_ ?_ _) | (with_reducible refine Below.alloc ?_ ?_ _) | (with_reducible refine below_drewN ?_ _) | (with_reducible refine Below.drew ?_) | go_size)))⟩
    · have hz : (((a : Int) / 1099511627776) != 0) = true := by
        have : (a : Int) / 1099511627776 ≠ 0 := by omega
        simpa using this
      obtain ⟨e1, e2, e3⟩ := hno (by omega)
      rw [e1, e2, e3]
      have HR := Lib.hid hR
      clear hR hyes hno e1 e2 e3 g1 g2 ha
      generalize ((a % 256 : Nat) : Int) = S at *
      generalize hE : IntKind.u32.wrap ((a : Int) / 256) = E at *
      generalize (a : Int) = a at *
      go_enter Tryd.func6, Tryd.ntmps6
      go_wp2_with fail
      refine (HR.out _).mono ?_
      rintro e w1 ⟨rfl, rfl⟩
      go_wp2
      exact bodyPost_ret (v := .tuple #[.agg #[.int .i64 0, .int .u32 0], .bool false]) (by first | (simp [results, Tryd.results6, go_sem]; done) | (simp_all [results, Tryd.results6, go_sem]; done)) rfl ⟨rfl, (by (repeat' (first | (with_reducible exact Below.refl _ _) | (with_reducible assumption) | (with_reducible refine Below.setCell ?_ ?_ _) | (with_reducible refine Below.alloc ?_ ?_ _) | (with_reducible refine below_drewN ?_ _) | (with_reducible refine Below.drew ?_) | go_size)))⟩
  · rw [rightS_no (by omega)] at hR
    obtain ⟨e1, e2, e3⟩ := hno (by omega)
    rw [e1, e2, e3]
    have HR := Lib.hid hR
    clear hR hyes hno e1 e2 e3 g1 ha
    generalize ((a % 256 : Nat) : Int) = S at *
    generalize hE : IntKind.u32.wrap ((a : Int) / 256) = E at *
    generalize (a : Int) = a at *
    go_enter Tryd.func6, Tryd.ntmps6
    go_wp2_with fail
    refine (HR.out _).mono ?_
    rintro e w1 ⟨rfl, rfl⟩
    go_wp2
    exact bodyPost_ret (v := .tuple #[.agg #[.int .i64 0, .int .u32 0], .bool false]) (by first | (simp [results, Tryd.results6, go_sem]; done) | (simp_all [results, Tryd.results6, go_sem]; done)) rfl ⟨rfl, (by (repeat' (first | (with_reducible exact Below.refl _ _) | (with_reducible assumption) | (with_reducible refine Below.setCell ?_ ?_ _) | (with_reducible refine Below.alloc ?_ ?_ _) | (with_reducible refine below_drewN ?_ _) | (with_reducible refine Below.drew ?_) | go_size)))⟩

set_option maxHeartbeats 1600000 in
theorem ref16_Of (a : Nat) (ha : a < 18446744073709551616) (w : World) : Calls Tryd.prog 7 #[.int .u64 (a : Int)] w (Says (.tuple #[.agg #[.int .i64 (stateW a : Int), .int .u32 (epochW a : Int)], .bool (okS a)]) w) := by
  have hno : ¬ (a < 1099511627776 ∧ a % 256 ≤ 4) → okS a = false ∧ (stateW a : Int) = 0 ∧ (epochW a : Int) = 0 := fun g => by
    have hk := okS_no g
    exact ⟨hk, by rw [(of_no hk).1]; rfl, by rw [(of_no hk).2]; rfl⟩
  have hm : (a : Int).tmod 256 = ((a % 256 : Nat) : Int) := by rw [show (256 : Int) = ((256 : Nat) : Int) from rfl, Int.ofNat_tmod]
  have hm' : (a : Int) % 256 = ((a % 256 : Nat) : Int) := by omega
  by_cases g2 : a < 1099511627776
  · have d1 : decide ((a : Int) ≥ 1099511627776) = false := by simp; omega
    have d1' : decide (1099511627776 ≤ (a : Int)) = false := by simp; omega
    by_cases g1 : a % 256 ≤ 4
    · have d2 : decide (((a % 256 : Nat) : Int) > 4) = false := by simp; omega
      have d2' : decide (4 < ((a % 256 : Nat) : Int)) = false := by simp; omega
      have hk := okS_iff.2 ⟨g2, g1⟩
      have hw1 : wrap64 ((a % 256 : Nat) : Int) = ((a % 256 : Nat) : Int) := IntWalk.wrap64_in _ (by omega)
      have hd : (a : Int).tdiv 256 = ((a / 256 : Nat) : Int) := by rw [show (256 : Int) = ((256 : Nat) : Int) from rfl, Int.ofNat_tdiv]
      have hd' : (a : Int) / 256 = ((a / 256 : Nat) : Int) := by omega
      have hw2 : IntKind.u32.wrap ((a / 256 : Nat) : Int) = ((a / 256 : Nat) : Int) := by rw [IntKind.wrap_u32]; omega
      have hw3 : IntKind.u64.wrap ((a / 256 : Nat) : Int) = ((a / 256 : Nat) : Int) := by rw [IntKind.wrap_u64]; omega
      have hw4 : ((a / 256 : Nat) : Int) % 4294967296 = ((a / 256 : Nat) : Int) := by omega
      rw [hk, (of_yes hk).1, (of_yes hk).2]
      clear hk hno g1 g2 ha
      generalize ((a % 256 : Nat) : Int) = S at *
      generalize ((a / 256 : Nat) : Int) = E at *
      generalize (a : Int) = a at *
      go_enter Tryd.func7, Tryd.ntmps7
      go_wp2
      exact bodyPost_ret (v := .tuple #[.agg #[.int .i64 S, .int .u32 E], .bool true]) (by first | (simp [results, Tryd.results7, go_sem]; done) | (simp_all [results, Tryd.results7, go_sem]; done)) rfl ⟨rfl, (by (repeat' (first | (with_reducible exact Below.refl _ _) | (with_reducible assumption) | (with_reducible refine Below.setCell ?_ ?_ _) | (with_reducible refine Below.alloc ?_ ?_ _) | (with_reducible refine below_drewN ?_ _) | (with_reducible refine Below.drew ?_) | go_size)))⟩
    · have d2 : decide (((a % 256 : Nat) : Int) > 4) = true := by simp; omega
      have d2' : decide (4 < ((a % 256 : Nat) : Int)) = true := by simp; omega
      obtain ⟨e1, e2, e3⟩ := hno (by omega)
      rw [e1, e2, e3]
      clear hno e1 e2 e3 g1 g2 ha
      generalize ((a % 256 : Nat) : Int) = S at *
      generalize (a : Int) = a at *
      go_enter Tryd.func7, Tryd.ntmps7
      go_wp2
      exact bodyPost_ret (v := .tuple #[.agg #[.int .i64 0, .int .u32 0], .bool false]) (by first | (simp [results, Tryd.results7, go_sem]; done) | (simp_all [results, Tryd.results7, go_sem]; done)) rfl ⟨rfl, (by (repeat' (first | (with_reducible exact Below.refl _ _) | (with_reducible assumption) | (with_reducible refine Below.setCell ?_ ?_ _) | (with_reducible refine Below.alloc ?_ ?_ _) | (with_reducible refine below_drewN ?_ _) | (with_reducible refine Below.drew ?_) | go_size)))⟩
  · have d1 : decide ((a : Int) ≥ 1099511627776) = true := by simp; omega
    have d1' : decide (1099511627776 ≤ (a : Int)) = true := by simp; omega
    obtain ⟨e1, e2, e3⟩ := hno (by omega)
    rw [e1, e2, e3]
    clear hno e1 e2 e3 g2 ha hm hm'
    generalize (a : Int) = a at *
    go_enter Tryd.func7, Tryd.ntmps7
    go_wp2
    exact bodyPost_ret (v := .tuple #[.agg #[.int .i64 0, .int .u32 0], .bool false]) (by first | (simp [results, Tryd.results7, go_sem]; done) | (simp_all [results, Tryd.results7, go_sem]; done)) rfl ⟨rfl, (by (repeat' (first | (with_reducible exact Below.refl _ _) | (with_reducible assumption) | (with_reducible refine Below.setCell ?_ ?_ _) | (with_reducible refine Below.alloc ?_ ?_ _) | (with_reducible refine below_drewN ?_ _) | (with_reducible refine Below.drew ?_) | go_size)))⟩

set_option maxHeartbeats 1600000 in
theorem port_Set (s x : Int) (k : Nat) (w : World) : Calls Tryd.prog 14 #[.agg #[.int .i64 s, .int .u32 (k : Int)], .int .i64 x] w (Says (if rightS x = true then .tuple #[.agg #[.int .i64 x, .int .u32 (((k + 1) % 4294967296 : Nat) : Int)], .int .i64 0] else .tuple #[.agg #[.int .i64 0, .int .u32 0], .int .i64 7]) w) := by
  have HR := Lib.hid (fun W => port_Right x W)
  by_cases h : rightS x = true
  · rw [if_pos h]
    rw [h] at HR
    have hk : IntKind.u32.wrap ((k : Int) + 1) = (((k + 1) % 4294967296 : Nat) : Int) := by rw [IntKind.wrap_u32]; omega
    generalize (((k + 1) % 4294967296 : Nat) : Int) = K at *
    generalize (k : Int) = k at *
    clear h
    go_enter Tryd.func14, Tryd.ntmps14
    go_wp2_with fail
    refine (HR.out _).mono ?_
    rintro e w1 ⟨rfl, rfl⟩
    go_wp2
    exact bodyPost_ret (v := .tuple #[.agg #[.int .i64 x, .int .u32 K], .int .i64 0]) (by first | (simp [results, Tryd.results14, go_sem]; done) | (simp_all [results, Tryd.results14, go_sem]; done)) rfl ⟨rfl, (by (repeat' (first | (with_reducible exact Below.refl _ _) | (with_reducible assumption) | (with_reducible refine Below.setCell ?_ ?_ _) | (with_reducible refine Below.alloc ?_ ?_ _) | (with_reducible refine below_drewN ?_ _) | (with_reducible refine Below.drew ?_) | go_size)))⟩
  · rw [if_neg h]
    have h : rightS x = false := by simpa using h
    rw [h] at HR
    clear h
    go_enter Tryd.func14, Tryd.ntmps14
    go_wp2_with fail
    refine (HR.out _).mono ?_
    rintro e w1 ⟨rfl, rfl⟩
    go_wp2
    exact bodyPost_ret (v := .tuple #[.agg #[.int .i64 0, .int .u32 0], .int .i64 7]) (by first | (simp [results, Tryd.results14, go_sem]; done) | (simp_all [results, Tryd.results14, go_sem]; done)) rfl ⟨rfl, (by (repeat' (first | (with_reducible exact Below.refl _ _) | (with_reducible assumption) | (with_reducible refine Below.setCell ?_ ?_ _) | (with_reducible refine Below.alloc ?_ ?_ _) | (with_reducible refine below_drewN ?_ _) | (with_reducible refine Below.drew ?_) | go_size)))⟩

set_option maxHeartbeats 1600000 in
theorem ref16_Set (s x : Int) (k : Nat) (w : World) : Calls Tryd.prog 15 #[.agg #[.int .i64 s, .int .u32 (k : Int)], .int .i64 x] w (Says (if rightS x = true then .tuple #[.agg #[.int .i64 x, .int .u32 (((k + 1) % 4294967296 : Nat) : Int)], .bool true] else .tuple #[.agg #[.int .i64 0, .int .u32 0], .bool false]) w) := by
  have HR := Lib.hid (fun W => ref16_Right x W)
  by_cases h : rightS x = true
  · rw [if_pos h]
    rw [h] at HR
    have hk : IntKind.u32.wrap ((k : Int) + 1) = (((k + 1) % 4294967296 : Nat) : Int) := by rw [IntKind.wrap_u32]; omega
    generalize (((k + 1) % 4294967296 : Nat) : Int) = K at *
    generalize (k : Int) = k at *
    clear h
    go_enter Tryd.func15, Tryd.ntmps15
    go_wp2_with fail
    refine (HR.out _).mono ?_
    rintro e w1 ⟨rfl, rfl⟩
    go_wp2
    exact bodyPost_ret (v := .tuple #[.agg #[.int .i64 x, .int .u32 K], .bool true]) (by first | (simp [results, Tryd.results15, go_sem]; done) | (simp_all [results, Tryd.results15, go_sem]; done)) rfl ⟨rfl, (by (repeat' (first | (with_reducible exact Below.refl _ _) | (with_reducible assumption) | (with_reducible refine Below.setCell ?_ ?_ _) | (with_reducible refine Below.alloc ?_ ?_ _) | (with_reducible refine below_drewN ?_ _) | (with_reducible refine Below.drew ?_) | go_size)))⟩
  · rw [if_neg h]
    have h : rightS x = false := by simpa using h
    rw [h] at HR
    clear h
    go_enter Tryd.func15, Tryd.ntmps15
    go_wp2_with fail
    refine (HR.out _).mono ?_
    rintro e w1 ⟨rfl, rfl⟩
    go_wp2
    exact bodyPost_ret (v := .tuple #[.agg #[.int .i64 0, .int .u32 0], .bool false]) (by first | (simp [results, Tryd.results15, go_sem]; done) | (simp_all [results, Tryd.results15, go_sem]; done)) rfl ⟨rfl, (by (repeat' (first | (with_reducible exact Below.refl _ _) | (with_reducible assumption) | (with_reducible refine Below.setCell ?_ ?_ _) | (with_reducible refine Below.alloc ?_ ?_ _) | (with_reducible refine below_drewN ?_ _) | (with_reducible refine Below.drew ?_) | go_size)))⟩

theorem law16_to (s K : Int) (w : World) : Calls Tryd.prog 10 #[.agg #[.int .i64 s, .int .u32 K]] w (Says (.agg #[.int .i64 s, .int .u32 K]) w) := by
  go_enter Tryd.func10, Tryd.ntmps10
  go_wp2
  exact bodyPost_ret (v := .agg #[.int .i64 s, .int .u32 K]) (by first | (simp [results, Tryd.results10, go_sem]; done) | (simp_all [results, Tryd.results10, go_sem]; done)) rfl ⟨rfl, (by (repeat' (first | (with_reducible exact Below.refl _ _) | (with_reducible assumption) | (with_reducible refine Below.setCell ?_ ?_ _) | (with_reducible refine Below.alloc ?_ ?_ _) | (with_reducible refine below_drewN ?_ _) | (with_reducible refine Below.drew ?_) | go_size)))⟩

theorem law16_from (s K : Int) (w : World) : Calls Tryd.prog 12 #[.agg #[.int .i64 s, .int .u32 K]] w (Says (.agg #[.int .i64 s, .int .u32 K]) w) := by
  go_enter Tryd.func12, Tryd.ntmps12
  go_wp2
  exact bodyPost_ret (v := .agg #[.int .i64 s, .int .u32 K]) (by first | (simp [results, Tryd.results12, go_sem]; done) | (simp_all [results, Tryd.results12, go_sem]; done)) rfl ⟨rfl, (by (repeat' (first | (with_reducible exact Below.refl _ _) | (with_reducible assumption) | (with_reducible refine Below.setCell ?_ ?_ _) | (with_reducible refine Below.alloc ?_ ?_ _) | (with_reducible refine below_drewN ?_ _) | (with_reducible refine Below.drew ?_) | go_size)))⟩
end Go.Proofs.YtdmkekiefbbopaaDoor
