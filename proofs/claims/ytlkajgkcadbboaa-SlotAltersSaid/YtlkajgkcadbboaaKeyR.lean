/-
  Keys out of words: the document's Of. No statement is proved here.
-/
import Derived.Test.YtlkajgkcadbboaaKeyB
set_option linter.unusedVariables false
namespace Go.Proofs.Ytlkajgkcadbboaa
open Go.RowKit

set_option maxHeartbeats 3200000 in
theorem ref8_Of (a : Nat) (ha : a < 18446744073709551616) (w : World) :
    Calls Try.prog 44 #[.int .u64 (a : Int)] w (Says (keyT a) w) := by
  have hno := @keyT_no a
  have hyes := @keyT_yes a
  by_cases h1 : a < 1152921504606846976
  · rw [hno (by
      cases h : okW a
      · rfl
      · have := (okW_iff.1 h).2
        omega)]
    have h1' : (a : Int) < 1152921504606846976 := by omega
    clear hno hyes h1 ha
    generalize (a : Int) = A at *
    go_enter Try.func44, Try.ntmps44
    go_wp2
    exact bodyPost_ret (v := .tuple #[.agg #[.int .i64 0, .int .u64 0], .bool false]) (by simp [results, Try.results44, go_sem]) rfl ⟨rfl, (by (repeat' (first | (with_reducible exact Below.refl _ _) | (with_reducible assumption) | (with_reducible refine Below.setCell ?_ ?_ _) | (with_reducible refine Below.alloc ?_ ?_ _) | go_size)))⟩
  · obtain ⟨c, rfl⟩ : ∃ c, a = c + 1152921504606846976 := ⟨a - 1152921504606846976, by omega⟩
    have h1' : ¬ ((c + 1152921504606846976 : Nat) : Int) < 1152921504606846976 := by omega
    have hs : IntKind.u64.wrap (((c + 1152921504606846976 : Nat) : Int) - 1152921504606846976) = (c : Int) := by rw [IntKind.wrap_u64]; omega
    have hq : (c : Int) / 281474976710656 = ((c / 281474976710656 : Nat) : Int) := by omega
    have hq' : IntKind.u64.wrap ((c : Int).tdiv 281474976710656) = ((c / 281474976710656 : Nat) : Int) := by rw [Int.tdiv_eq_ediv_of_nonneg (by omega), hq, IntKind.wrap_u64]; omega
    have hL := fun W => ref_Low c W
    by_cases h2 : 4095 < c / 281474976710656
    · rw [hno (by
        cases h : okW (c + 1152921504606846976)
        · rfl
        · have := (okW_iff.1 h).2
          omega)]
      clear hno hyes h1 ha hL
      generalize c / 281474976710656 = q at *
      have h2' : (q : Int) > 4095 := by omega
      generalize ((c + 1152921504606846976 : Nat) : Int) = A at *
      generalize (c : Int) = C at *
      generalize (q : Int) = Q at *
      clear h2
      go_enter Try.func44, Try.ntmps44
      go_wp2
      exact bodyPost_ret (v := .tuple #[.agg #[.int .i64 0, .int .u64 0], .bool false]) (by simp [results, Try.results44, go_sem]) rfl ⟨rfl, (by (repeat' (first | (with_reducible exact Below.refl _ _) | (with_reducible assumption) | (with_reducible refine Below.setCell ?_ ?_ _) | (with_reducible refine Below.alloc ?_ ?_ _) | go_size)))⟩
    · clear hq'
      have hv : vidW (c + 1152921504606846976) = c / 281474976710656 := by unfold vidW; omega
      have hm : macW (c + 1152921504606846976) = c % 281474976710656 := by unfold macW; omega
      have hk : okW (c + 1152921504606846976) = rightK ((c / 281474976710656 : Nat) : Int) (c % 281474976710656) := by
        unfold okW
        rw [hv, hm, show (c + 1152921504606846976) / 1152921504606846976 = 1 by omega]
        simp
      have hR := fun W => ref8_Right ((c / 281474976710656 : Nat) : Int) (c % 281474976710656) (by omega) W
      rw [hv, hm] at hyes
      rw [← hk] at hR
      clear hv hm hk
      generalize okW (c + 1152921504606846976) = K at *
      generalize keyT (c + 1152921504606846976) = T at *
      generalize c % 281474976710656 = m at *
      generalize c / 281474976710656 = q at *
      have h2' : ¬ (q : Int) > 4095 := by omega
      have HL := Lib.hid hL
      have HR := Lib.hid hR
      generalize ((c + 1152921504606846976 : Nat) : Int) = A at *
      clear h1 ha hL hR h2
      have hQ0 : (0 : Int) ≤ (q : Int) := by omega
      cases K
      · rw [hno rfl]
        clear hno hyes
        go_enter Try.func44, Try.ntmps44
        go_wp2_with fail
        refine (HL.out _).mono ?_
        rintro e w1 ⟨rfl, rfl⟩
        go_wp2_with fail
        refine (HR.out _).mono ?_
        rintro e w2 ⟨rfl, hb⟩
        obtain ⟨hc, hf⟩ := bcell hb
        have c0 : ∀ o, w2.frozen? ⟨w.heap.size, o, none⟩ = false := fun o => by rw [hf _ _ (by simp; omega)]; simp [go_sem]
        have c1 : w2.cell? ⟨w.heap.size, 0, none⟩ = some (.int .i64 0) := by rw [hc _ _ (by simp; omega)]; simp [go_sem]
        have c2 : w2.cell? ⟨w.heap.size, 1, none⟩ = some (.int .u64 0) := by rw [hc _ _ (by simp; omega)]; simp [go_sem]
        have e1 : w2.cell? ⟨w.heap.size + 1, 0, none⟩ = some (.int .i64 (q : Int)) := by rw [hc _ _ (by simp)]; simp [go_sem]
        have e2 : w2.cell? ⟨w.heap.size + 1, 1, none⟩ = some (.int .u64 (m : Int)) := by rw [hc _ _ (by simp)]; simp [go_sem]
        have hB1 : Below w.heap.size w w2 := Below.trans (by (repeat' (first | (with_reducible exact Below.refl _ _) | (with_reducible assumption) | (with_reducible refine Below.setCell ?_ ?_ _) | (with_reducible refine Below.alloc ?_ ?_ _) | go_size))) (hb.mono (by go_size))
        have hz1 : w.heap.size + 2 ≤ w2.heap.size := by have := hb.size; simp at this; omega
        clear hc hf hb HL HR
        go_wp2
        exact bodyPost_ret (v := .tuple #[.agg #[.int .i64 0, .int .u64 0], .bool false]) (by simp [results, Try.results44, go_sem, c1, c2]) rfl ⟨rfl, (by (repeat' (first | (with_reducible exact Below.refl _ _) | (with_reducible assumption) | (with_reducible refine Below.setCell ?_ ?_ _) | (with_reducible refine Below.alloc ?_ ?_ _) | go_size)))⟩
      · rw [hyes rfl]
        clear hno hyes
        go_enter Try.func44, Try.ntmps44
        go_wp2_with fail
        refine (HL.out _).mono ?_
        rintro e w1 ⟨rfl, rfl⟩
        go_wp2_with fail
        refine (HR.out _).mono ?_
        rintro e w2 ⟨rfl, hb⟩
        obtain ⟨hc, hf⟩ := bcell hb
        have c0 : ∀ o, w2.frozen? ⟨w.heap.size, o, none⟩ = false := fun o => by rw [hf _ _ (by simp; omega)]; simp [go_sem]
        have c1 : w2.cell? ⟨w.heap.size, 0, none⟩ = some (.int .i64 0) := by rw [hc _ _ (by simp; omega)]; simp [go_sem]
        have c2 : w2.cell? ⟨w.heap.size, 1, none⟩ = some (.int .u64 0) := by rw [hc _ _ (by simp; omega)]; simp [go_sem]
        have e1 : w2.cell? ⟨w.heap.size + 1, 0, none⟩ = some (.int .i64 (q : Int)) := by rw [hc _ _ (by simp)]; simp [go_sem]
        have e2 : w2.cell? ⟨w.heap.size + 1, 1, none⟩ = some (.int .u64 (m : Int)) := by rw [hc _ _ (by simp)]; simp [go_sem]
        have hB1 : Below w.heap.size w w2 := Below.trans (by (repeat' (first | (with_reducible exact Below.refl _ _) | (with_reducible assumption) | (with_reducible refine Below.setCell ?_ ?_ _) | (with_reducible refine Below.alloc ?_ ?_ _) | go_size))) (hb.mono (by go_size))
        have hz1 : w.heap.size + 2 ≤ w2.heap.size := by have := hb.size; simp at this; omega
        clear hc hf hb HL HR
        go_wp2
        exact bodyPost_ret (v := .tuple #[.agg #[.int .i64 (q : Int), .int .u64 (m : Int)], .bool true]) (by simp [results, Try.results44, go_sem, c1, c2]) rfl ⟨rfl, (by (repeat' (first | (with_reducible exact Below.refl _ _) | (with_reducible assumption) | (with_reducible refine Below.setCell ?_ ?_ _) | (with_reducible refine Below.alloc ?_ ?_ _) | go_size)))⟩
end Go.Proofs.Ytlkajgkcadbboaa
