/-
  One step of two gauges side by side: the program's and the document's answer alike. No statement is proved here.
-/
import Derived.Test.YtdgjgddobjhekaaGaugeK
set_option linter.unusedVariables false
namespace Go.Proofs.Ytdgjgddobjhekaa
open Go.RowKit

theorem GAt.other {w : World} {g g' lv mo x t : Nat} (h : GAt w g lv mo x t) (hne : g ≠ g') (lv' mo' x' t' : Nat) : GAt (setG w g' lv' mo' x' t') g lv mo x t := by
  obtain ⟨h0, h1, h2, h3, h4, h5⟩ := h
  exact ⟨by rw [setG_size]; exact h0, by simp [setG, go_sem, h1], by simp [setG, go_sem, h2], by simp [setG, go_sem, h3], by simp [setG, go_sem, h4], fun o => by simp [setG, go_sem, h5]⟩
theorem geB_sub {r : Nat} (h : geB r = true) : ∃ q, floatBits .sub .f64 r 4607182418800017408 = some q := by
  have hn : nanW r = false := by
    cases hn : nanW r
    · rfl
    · exfalso
      unfold geB at h
      rw [gt_bits, eq_bits, ltW_nan_r _ hn, hn] at h
      simp at h
  have h1 : rungW 4607182418800017408 < 9218868437227405312 := by decide
  have hle : rungW r ≤ 9218868437227405312 := by
    unfold nanW at hn
    have := of_decide_eq_false hn
    omega
  rcases Nat.lt_or_ge (rungW r) 9218868437227405312 with hc | hc
  · obtain ⟨T, d, _, h2⟩ := sub_val hc h1
    exact ⟨_, h2⟩
  · obtain ⟨m, a, hm, _⟩ := read_num h1
    refine ⟨Ieee.double.word (sgnW r) Ieee.double.infRung, ?_⟩
    show Ieee.double.sub _ _ = _
    unfold Ieee.Format.sub
    rw [read_inf (by omega : rungW r = 9218868437227405312), hm]
    rfl
theorem room_u64 {lv mo ro n : Nat} (hm : mo < 18446744073709551616) : roomW lv mo ro n < 18446744073709551616 := by
  unfold roomW
  cases hp : floatBits .mul .f64 lv (fN n) with
  | none => show (0 : Nat) < _; omega
  | some p =>
    simp only
    cases hs : floatBits .add .f64 ro p with
    | none => show (0 : Nat) < _; omega
    | some s =>
      have hsl : s < 18446744073709551616 := by
        have h : decide (s < 2 ^ 64) = true := floatBits_wf hs
        have := of_decide_eq_true h
        omega
      simp only
      (repeat' split) <;> omega
theorem sub_u64 {r q : Nat} (h : floatBits .sub .f64 r 4607182418800017408 = some q) : q < 18446744073709551616 := by
  have h : decide (q < 2 ^ 64) = true := floatBits_wf h
  have := of_decide_eq_true h
  omega
def fG (lv mo x t : Nat) : Value := .agg #[.float .f64 lv, .float .f64 mo, .float .f64 x, .int .u32 (t : Int)]
theorem play_step {lv mo x t T : Nat} (hl : lv < 18446744073709551616) (hm : mo < 18446744073709551616) (hx : x < 18446744073709551616) (ht : t < 4294967296) (hT : T < 4294967296) :
    ∃ (f q : Nat) (ok : Bool), f < 18446744073709551616 ∧ q < 18446744073709551616 ∧
      (∀ W, Calls Try.prog 25 #[.agg #[.float .f64 lv, .float .f64 mo, .float .f64 x, .int .u32 (t : Int)], .int .u32 (T : Int)] W (Says (.agg #[.float .f64 lv, .float .f64 mo, .float .f64 f, .int .u32 (T : Int)]) W)) ∧
      (∀ W, Calls Try.prog 26 #[.agg #[.float .f64 lv, .float .f64 mo, .float .f64 x, .int .u32 (t : Int)], .int .u32 (T : Int)] W (Says (.agg #[.float .f64 lv, .float .f64 mo, .float .f64 f, .int .u32 (T : Int)]) W)) ∧
      (∀ W, Calls Try.prog 27 #[.agg #[.float .f64 lv, .float .f64 mo, .float .f64 x, .int .u32 (t : Int)], .int .u32 (T : Int)] W (Says (.tuple #[.agg #[.float .f64 lv, .float .f64 mo, .float .f64 q, .int .u32 (T : Int)], .bool ok]) W)) ∧
      (∀ W, Calls Try.prog 28 #[.agg #[.float .f64 lv, .float .f64 mo, .float .f64 x, .int .u32 (t : Int)], .int .u32 (T : Int)] W (Says (.tuple #[.agg #[.float .f64 lv, .float .f64 mo, .float .f64 q, .int .u32 (T : Int)], .bool ok]) W)) := by
  have hf1 := fun W => gauge_Fill lv mo x t T hl ht hT W
  have hf2 := fun W => ref5_Fill lv mo x t T hl ht hT W
  have hfl : fillW lv mo x t T < 18446744073709551616 := by
    unfold fillW
    split
    · exact hx
    · exact room_u64 hm
  cases ho : openW lv
  · obtain ⟨r, hr⟩ : ∃ r, roomW lv mo x (ageN T t) = r := ⟨_, rfl⟩
    have hrl : r < 18446744073709551616 := by rw [← hr]; exact room_u64 hm
    cases hg : geB r
    · exact ⟨_, r, false, hfl, hrl, hf1, hf2, fun W => gauge_Take_no lv mo x t T hl ht hT ho hr hg W, fun W => ref5_Take_no lv mo x t T hl ht hT ho hr hg W⟩
    · obtain ⟨q, hq⟩ := geB_sub hg
      exact ⟨_, q, true, hfl, sub_u64 hq, hf1, hf2, fun W => gauge_Take_yes lv mo x t T hl ht hT ho hr hg hq W, fun W => ref5_Take_yes lv mo x t T hl ht hT ho hr hg hq W⟩
  · exact ⟨_, x, true, hfl, hx, hf1, hf2, fun W => gauge_Take_open lv mo x t T hl ht hT ho W, fun W => ref5_Take_open lv mo x t T hl ht hT ho W⟩
end Go.Proofs.Ytdgjgddobjhekaa
