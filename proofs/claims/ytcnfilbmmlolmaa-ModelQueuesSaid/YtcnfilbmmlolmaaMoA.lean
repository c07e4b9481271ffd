/-
  model: is a rule wrong? the first that is; is a number within? No statement is proved here.
-/
import Derived.Test.YtcnfilbmmlolmaaMzA
import Derived.Test.YtcnfilbmmlolmaaVlanG
import Derived.Test.YtcnfilbmmlolmaaVlanH
import Derived.Test.YtcnfilbmmlolmaaBkD
import Derived.Lib.Hide
set_option linter.unusedVariables false
namespace Go.Proofs.Ytcnfilbmmlolmaa
open Go.RowKit

theorem model_within (n most : Int) (w : World) : Calls Try.prog 42 #[.int .i64 n, .int .i64 most] w (Says (.bool (withinI n most)) w) := by
  unfold withinI
  by_cases h1 : 1 ≤ n
  · have d1 : decide (n ≥ 1) = true := by simp; omega
    have d2 : decide (1 ≤ n) = true := by simp; omega
    go_enter Try.func42, Try.ntmps42
    go_wp2
    go_ret
    exact ⟨by first | rfl | (simp; done) | simp [d2], Below.refl _ _⟩
  · have d1 : decide (n ≥ 1) = false := by simp; omega
    have d2 : decide (1 ≤ n) = false := by simp; omega
    go_enter Try.func42, Try.ntmps42
    go_wp2
    go_ret
    exact ⟨by first | rfl | (simp; done) | simp [d2], Below.refl _ _⟩
theorem model_isWrong (p a : Int) (w : World) : Calls Try.prog 40 #[.agg #[.int .i64 p, .int .i64 a]] w (Says (.bool (!(ruleB p a))) w) := by
  have HR := Lib.hid fun W => vlan_Right p a W
  obtain ⟨z, hz⟩ : ∃ z, z = ruleB p a := ⟨_, rfl⟩
  rw [← hz] at HR ⊢
  clear hz
  go_enter Try.func40, Try.ntmps40
  go_wp2_with fail
  refine (HR.out _).mono ?_
  rintro e w1 ⟨rfl, hb⟩
  go_wp2
  go_ret
  exact ⟨rfl, ((Below.refl _ _).alloc (Nat.le_refl _) _).trans (hb.mono (by simp))⟩
set_option maxRecDepth 20000 in
set_option maxHeartbeats 1600000 in
theorem index_rules {w : World} {B n m : Nat} {v : Value} {l : List Rl} (hv : Sl w B 2 v n (rlc l)) (hB : B ≤ w.heap.size) (hf : FirstBad l n m) :
    Calls Try.prog 78 #[v, .func (.func 40) #[] #[]] w (Says (.int .i64 (if m < n then (m : Int) else -1)) w) := by
  obtain ⟨A, cap, rfl, hcap, hmx⟩ := hv.form
  unfold maxLen at hmx
  have HV := Lib.hid hv
  have HF := Lib.hid hf
  obtain ⟨X, hX⟩ : ∃ X : Int, X = if m < n then (m : Int) else -1 := ⟨_, rfl⟩
  rw [← hX]
  have HX := Lib.hid hX
  have HW := Lib.hid fun p a W => model_isWrong p a W
  have hmn := hf.1
  clear hv hf hX
  go_enter Try.func78, Try.ntmps78
  go_wp2
  go_loopw [8] (fun i wr => ∃ k : Nat, k ≤ m ∧ i = .int .i64 k ∧ Hid (Below w.heap.size w wr)) (fun i _ => n - (intOf i).toNat)
  case atStart => exact ⟨0, by omega, rfl, Below.refl _ _⟩
  case round =>
    obtain ⟨k, hk, rfl, HB⟩ := hrel
    by_cases hlt : k < n
    · obtain ⟨b, off, cap', e, hc1, hc2, hb, hlen, hcell⟩ := HV.out.rlAt (by omega)
      cases e
      obtain ⟨c0, c1⟩ := hcell k hlt
      have k0 := (HB.out.cell (p := ⟨b, off + k * 2, none⟩) (by show b < _; omega)).trans c0
      have k1 := (HB.out.cell (p := ⟨b, off + k * 2 + 1, none⟩) (by show b < _; omega)).trans c1
      have HK := HW.out (l.getD k rl0).pv (l.getD k rl0).ac
      have hbad : (!(ruleB (l.getD k rl0).pv (l.getD k rl0).ac)) = badR l k := rfl
      rw [hbad] at HK
      clear hcell c0 c1 hbad
      generalize (l.getD k rl0).pv = P1 at *
      generalize (l.getD k rl0).ac = P2 at *
      by_cases hkm : k = m
      · subst hkm
        rw [HF.out.2.2 hlt] at HK
        have HK := Lib.hid HK
        have hx : X = (k : Int) := by rw [HX.out, if_pos hlt]
        go_wp2_with fail
        refine (HK.out _).mono ?_
        rintro e w1 ⟨rfl, hb1⟩
        go_wp2
        go_ret
        exact ⟨by rw [hx]; rfl, HB.out.trans (hb1.mono HB.out.size)⟩
      · rw [HF.out.2.1 k (by omega)] at HK
        have HK := Lib.hid HK
        go_wp2_with fail
        refine (HK.out _).mono ?_
        rintro e w1 ⟨rfl, hb1⟩
        have HB1 := Lib.hid (HB.out.trans (hb1.mono HB.out.size))
        clear hb1
        go_wp2
        go_roundw
        case rel => exact ⟨k + 1, by omega, by go_num, HB1⟩
        case measure => simp [intOf]; omega
    · have hkn : k = n := by omega
      have hx : X = -1 := by rw [HX.out, if_neg (by omega)]
      go_wp2
      go_ret
      exact ⟨by rw [hx]; rfl, HB.out⟩
theorem contains_rules {w : World} {B n m : Nat} {v : Value} {l : List Rl} (hv : Sl w B 2 v n (rlc l)) (hB : B ≤ w.heap.size) (hf : FirstBad l n m) :
    Calls Try.prog 39 #[v, .func (.func 40) #[] #[]] w (Says (.bool (decide (m < n))) w) := by
  have HI := Lib.hid (index_rules hv hB hf)
  obtain ⟨A, cap, rfl, _, _⟩ := hv.form
  obtain ⟨X, hX⟩ : ∃ X : Int, X = if m < n then (m : Int) else -1 := ⟨_, rfl⟩
  rw [← hX] at HI
  have hd : decide (X ≥ 0) = decide (m < n) := by
    by_cases h : m < n
    · rw [hX, if_pos h]; simp [h]
    · rw [hX, if_neg h]; simp [h]
  have hd' : decide (0 ≤ X) = decide (m < n) := hd
  generalize decide (m < n) = z at *
  clear hX hv hf
  go_enter Try.func39, Try.ntmps39
  go_wp2_with fail
  refine (HI.out).mono ?_
  rintro e w1 ⟨rfl, hb⟩
  go_wp2
  go_ret
  exact ⟨by first | rfl | (simp [hd']; done), hb⟩
/-- What Check says of a plan. -/
def planN (P : Int) (lr : List Rl) (nr : Nat) (lv : List Vl) (nv : Nat) (S B n t r : Int) : Nat :=
  if checkN lv P nv ≠ 0 then checkN lv P nv
  else if (nr : Int) = P ∧ (∀ i, i < nr → badR lr i = false) ∧ (rightS S B n && (withinI t 8 && withinI r 64)) = true then 0 else 1
end Go.Proofs.Ytcnfilbmmlolmaa
