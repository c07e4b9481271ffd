/-
  Layer 2's same, where it is: two frames alike, but for noughts behind. No statement is proved here.
-/
import Derived.Test.YthamjkccljhhcaaFrameC
import Derived.IntWalk
set_option linter.unusedVariables false
namespace Go.Proofs.Ythamjkccljhhcaa
open Go.RowKit

theorem pad_at (l : List Nat) (m k : Nat) (hk : k < l.length + m) : (bv (l ++ List.replicate m 0))[k]? = some (.int .u8 (((l ++ List.replicate m 0).getD k 0 : Nat) : Int)) := by
  have h : k < (l ++ List.replicate m 0).length := by simp; omega
  rw [bv_at _ _ h]
  simp [List.getD_eq_getElem?_getD, List.getElem?_eq_getElem h]
theorem pad_low (l : List Nat) (m k : Nat) (hk : k < l.length) : (l ++ List.replicate m 0).getD k 0 = l.getD k 0 := by
  simp [List.getD_eq_getElem?_getD, List.getElem?_append_left hk]
theorem pad_high (l : List Nat) (m k : Nat) (hk : l.length ≤ k) : (l ++ List.replicate m 0).getD k 0 = 0 := by
  rw [List.getD_eq_getElem?_getD, List.getElem?_append_right hk, List.getElem?_replicate]
  split <;> rfl

set_option maxRecDepth 100000 in
set_option maxHeartbeats 8000000 in
theorem law_same (d s c y : Nat) (t pad : Bool) (l : List Nat) (m : Nat) {v1 v2 : Value} {w : World} {B B' : Nat} (h1 : Sl w B 1 v1 l.length (bv l)) (h2 : Sl w B' 1 v2 (l.length + m) (bv (l ++ List.replicate m 0)))
    (hp : m = 0 ∨ pad = true) (hB : B ≤ w.heap.size) (hB' : B' ≤ w.heap.size) :
    Calls Try.prog 18 #[.agg #[.int .u64 (d : Int), .int .u64 (s : Int), .bool t, .int .u16 (c : Int), .int .u16 (y : Int), v1], .agg #[.int .u64 (d : Int), .int .u64 (s : Int), .bool t, .int .u16 (c : Int), .int .u16 (y : Int), v2], .bool pad] w (Says (.bool true) w) := by
  obtain ⟨A1, c1, hv1, hc1, hm1⟩ := h1.form
  obtain ⟨A2, c2, hv2, hc2, hm2⟩ := h2.form
  subst hv1 hv2
  have q1 : ((d : Int) != (d : Int)) = false := by simp
  have q2 : ((s : Int) != (s : Int)) = false := by simp
  have q3 : ((c : Int) != (c : Int)) = false := by simp
  have q4 : ((y : Int) != (y : Int)) = false := by simp
  have q5 : (t != t) = false := by simp
  have q6 : ¬ ((l.length + m : Nat) : Int) < (l.length : Int) := by omega
  have q7 : decide (l.length + m < l.length) = false := by simp
  obtain ⟨n, hn⟩ : ∃ n, n = l.length + m := ⟨_, rfl⟩
  rw [← hn] at h2 hc2 q6 q7 ⊢
  have S1 := Lib.hid h1
  have S2 := Lib.hid h2
  have HP := Lib.hid hp
  have HN := Lib.hid hn
  have HPA := Lib.hid (pad_at l m)
  have HPL := Lib.hid (pad_low l m)
  have HPH := Lib.hid (pad_high l m)
  obtain ⟨k1, hk1⟩ : ∃ k1, k1 = l.length := ⟨_, rfl⟩
  have HK1 := Lib.hid hk1
  rw [← hk1] at hc1 q6 q7 ⊢
  unfold maxLen at hm1 hm2
  have hle : k1 ≤ n := by omega
  clear h1 h2 hp hn hk1
  obtain ⟨w2, hw2⟩ : ∃ w2, w2 = ((w.alloc (.cells #[.int .u64 (d : Int), .int .u64 (s : Int), .bool t, .int .u16 (c : Int), .int .u16 (y : Int), .slice A1 k1 c1] 32)).alloc (.cells #[.int .u64 (d : Int), .int .u64 (s : Int), .bool t, .int .u16 (c : Int), .int .u16 (y : Int), .slice A2 n c2] 32)) := ⟨_, rfl⟩
  have hb : Below w.heap.size w w2 := by rw [hw2]; exact ((Below.refl _ _).alloc (Nat.le_refl _) _).alloc (by simp) _
  have hx1 : w2.cell? ⟨w.heap.size, 5, none⟩ = some (.slice A1 k1 c1) := by rw [hw2]; simp [go_sem]
  have hx2 : w2.cell? ⟨w.heap.size + 1, 5, none⟩ = some (.slice A2 n c2) := by rw [hw2]; simp [go_sem]
  have HB := Lib.hid hb
  have HX1 := Lib.hid hx1
  have HX2 := Lib.hid hx2
  have HW2 := Lib.hid hw2
  clear hb hx1 hx2 hw2
  go_enter Try.func18, Try.ntmps18
  go_wp2
  clear q1 q2 q3 q4 q5 q6 q7
  rw [← HW2.out]
  have hx1 := HX1.out
  have hx2 := HX2.out
  go_loopw [7] (fun i wr => ∃ k : Nat, k ≤ n ∧ i = .int .i64 k ∧ ∃ j, wr = w2.drewN j) (fun i _ => n - (intOf i).toNat)
  case atStart => exact ⟨0, by omega, rfl, 0, rfl⟩
  case round =>
    obtain ⟨k, hk, rfl, j, rfl⟩ := hrel
    have g0 : (0 : Int) ≤ (k : Int) := Int.natCast_nonneg _
    by_cases hlt : k < n
    · have g1 : (k : Int) < (n : Int) := by omega
      have gd : decide (k < n) = true := by simpa using hlt
      obtain ⟨b2, off2, cc2, hv2, _, _, hbl2, hcell2⟩ := S2.out.at_ (show 0 < n by omega)
      injection hv2 with e1 _ e2
      subst e1 e2
      have hc2k := (HB.out.cell (p := ⟨b2, off2 + k, none⟩) (Nat.lt_of_lt_of_le hbl2 hB')).trans ((hcell2 k (by omega)).trans (HPA.out k (by have := HN.out; omega)))
      by_cases hlo : k < k1
      · have g2 : (k : Int) < (k1 : Int) := by omega
        have gd2 : decide (k < k1) = true := by simpa using hlo
        have gd3 : decide (k1 ≤ k) = false := by simpa using hlo
        have gd4 : ¬ (k1 : Int) ≤ (k : Int) := by omega
        obtain ⟨b1, off1, cc1, hv1, _, _, hbl1, hcell1⟩ := S1.out.at_ (by have := HK1.out; omega)
        rw [← HK1.out] at hv1 hcell1
        injection hv1 with e1 _ e2
        subst e1 e2
        have hc1k := (HB.out.cell (p := ⟨b1, off1 + k, none⟩) (Nat.lt_of_lt_of_le hbl1 hB)).trans ((hcell1 k (by omega)).trans (bv_at l k (by have := HK1.out; omega)))
        have hgl : l[k]'(by have := HK1.out; omega) = l.getD k 0 := by rw [List.getD_eq_getElem?_getD, List.getElem?_eq_getElem (by have := HK1.out; omega)]; rfl
        rw [hgl] at hc1k
        rw [HPL.out k (by have := HK1.out; omega)] at hc2k
        have qx : (((l.getD k 0 : Nat) : Int) != ((l.getD k 0 : Nat) : Int)) = false := by simp
        clear hcell1 hcell2 hgl HPA HPL HPH S1 S2 HP
        generalize l.getD k 0 = x at *
        go_wp2_with fail
        go_quiet (fail)
        go_wp2
        go_roundw
        case rel => exact ⟨k + 1, by omega, by go_num, _, (by first | rfl | exact World.drewN_drewN _ _ _)⟩
        case measure => simp [intOf]; omega
      · have g2 : ¬ (k : Int) < (k1 : Int) := by omega
        have gd2 : decide (k < k1) = false := by simpa using hlo
        have gd3 : decide (k1 ≤ k) = true := by simp; omega
        have gd4 : (k1 : Int) ≤ (k : Int) := by omega
        rw [HPH.out k (by have := HK1.out; omega)] at hc2k
        have hpad : pad = true := by
          rcases HP.out with h | h
          · exfalso; have := HN.out; have := HK1.out; omega
          · exact h
        subst hpad
        rw [show ((0 : Nat) : Int) = 0 from rfl] at hc2k
        clear hcell2 HPA HPL HPH S1 S2 HP
        go_wp2_with fail
        go_quiet (fail)
        go_wp2
        go_roundw
        case rel => exact ⟨k + 1, by omega, by go_num, _, (by first | rfl | exact World.drewN_drewN _ _ _)⟩
        case measure => simp [intOf]; omega
    · have : k = n := by omega
      subst this
      have gd : decide (k < k) = false := by simp
      go_wp2
      go_ret
      exact ⟨rfl, below_drewN HB.out _⟩
end Go.Proofs.Ythamjkccljhhcaa
