/-
  A frame of noughts with a type: its bytes, and what they tell. No statement is proved here.
-/
import Derived.Test.YtiafegkjamhneaaFrameY
import Derived.Test.YtiafegkjamhneaaFrameW
import Derived.Test.YtiafegkjamhneaaFrameU
namespace Go.Proofs.Ytiafegkjamhneaa
open Go.RowKit

def tyF (t k : Nat) : Fr := ⟨2, 4, false, 0, t, zl k⟩
theorem tyF_1 {t k : Nat} (h : t = 33024) : wErr (tyF t k) = 1 := werr_tag ⟨by show 2 < _; omega, by show 4 < _; omega⟩ ⟨rfl, .inr h⟩
theorem tyF_rest {t k : Nat} (h : t ≠ 33024) (hk : k ≤ 1500) : wErr (tyF t k) = if meetsB t k then 0 else 4 := by
  have := werr_rest (f := tyF t k) ⟨by show 2 < _; omega, by show 4 < _; omega⟩ (by rintro ⟨_, h1 | h1⟩; exact h1 rfl; exact h h1)
  rw [this]
  have hl : (tyF t k).load.length = k := zl_len k
  rw [hl, if_neg (by omega)]
  rfl
def tyL (t k : Nat) : List Nat := [0, 0, 0, 0, 0, 2, 0, 0, 0, 0, 0, 4, t / 256, t % 256] ++ zl k
theorem tyB (t k : Nat) : wBytes (tyF t k) = padL (tyL t k) := by
  have h2 : mb 2 = [0, 0, 0, 0, 0, 2] := by decide
  have h4 : mb 4 = [0, 0, 0, 0, 0, 4] := by decide
  show padL (mb 2 ++ mb 4 ++ (if false = true then _ else []) ++ by2 t ++ zl k) = _
  rw [h2, h4]
  rfl
theorem tyL_len (t k : Nat) : (tyL t k).length = 14 + k := by simp [tyL, zl_len]; omega
theorem padL_max (l : List Nat) : (padL l).length = max 60 l.length := by
  rw [padL_length]; split <;> omega
theorem tyP_len (t k : Nat) : (padL (tyL t k)).length = max 60 (14 + k) := by rw [padL_max, tyL_len]
theorem tyP_12 (t k : Nat) : (padL (tyL t k)).getD 12 0 = t / 256 ∧ (padL (tyL t k)).getD 13 0 = t % 256 := by
  unfold padL tyL
  exact ⟨rfl, rfl⟩
theorem tyP_lt {t k : Nat} (ht : t < 65536) : ∀ x ∈ padL (tyL t k), x < 256 := by
  intro x hx
  unfold padL at hx
  rw [List.mem_append] at hx
  rcases hx with hx | hx
  · unfold tyL at hx
    rw [List.mem_append] at hx
    rcases hx with hx | hx
    · simp at hx
      omega
    · exact zl_lt k x hx
  · have := List.eq_of_mem_replicate hx
    omega
theorem tyP_tells {t k : Nat} (ht : t < 65536) (h : t ≠ 33024) (hk : k ≤ 1500) (hm : meetsB t k = true) : errN (padL (tyL t k)) = 0 ∧ headN (padL (tyL t k)) = 14 ∧ num2 (padL (tyL t k)) 12 = t := by
  obtain ⟨h12, h13⟩ := tyP_12 t k
  have hn : num2 (padL (tyL t k)) 12 = t := by unfold num2; rw [h12, h13]; omega
  have ht2 : tagB (padL (tyL t k)) = false := by unfold tagB; rw [hn, decide_eq_false h]
  have hh : headN (padL (tyL t k)) = 14 := by unfold headN; rw [ht2]; rfl
  refine ⟨?_, hh, hn⟩
  have hm2 : meetsB t (max 60 (14 + k) - 14) = true := by
    unfold meetsB at hm ⊢
    simp only [decide_eq_true_eq] at hm ⊢
    omega
  unfold errN
  rw [hh, hn, tyP_len, if_neg (by omega), if_neg (by omega), hm2]
  rfl
theorem ty_parse {t k : Nat} (ht : t < 65536) (h : t ≠ 33024) (hk : k ≤ 1500) (hm : meetsB t k = true) {N m : Nat} (hN : N = max 60 (14 + k)) (hmm : m = max k 46) {v : Value} {w : World} {B : Nat} (hv : Sl w B 1 v N (bv (padL (tyL t k)))) (hB : B ≤ w.heap.size) :
    Calls Try.prog 15 #[v] w fun e w' => ∃ (d s : Nat) (tg : Bool) (c : Nat) (A : Option Addr) (p : Nat), e = .returned (.tuple #[.agg #[.int .u64 d, .int .u64 s, .bool tg, .int .u16 c, .int .u16 (t : Int), .slice A m p], .int .i64 0]) ∧ Below w.heap.size w w' := by
  obtain ⟨he, hh, hn⟩ := tyP_tells ht h hk hm
  have hl := tyP_len t k
  refine (frame_Parse (tyP_lt ht) (v := v) (w := w) (B := B) (by rw [hl, ← hN]; exact hv) hB).mono fun e w' hp => ?_
  obtain ⟨A, c, h1, _, h3⟩ := ParsesTo.ok hp he
  rw [hl, hh, hn, show max 60 (14 + k) - 14 = m by omega] at h1
  exact ⟨_, _, _, _, A, c, h1, h3⟩
end Go.Proofs.Ytiafegkjamhneaa
