/-
  Frames of noughts of any length, with a type or a tag in them: what is told of them. No statement is proved here.
-/
import Derived.Test.YtiafegkjamhneaaFrameC
import Derived.Test.YtiafegkjamhneaaBase3
namespace Go.Proofs.Ytiafegkjamhneaa
open Go.RowKit

theorem frame_Parse_err {l : List Nat} {k E : Nat} (hl : ∀ x ∈ l, x < 256) (hlen : l.length = k) (he : errN l = E) {v : Value} {w : World} {B : Nat} (hv : Sl w B 1 v k (bv l)) (hB : B ≤ w.heap.size) :
    Calls Try.prog 15 #[v] w fun e w' => ∃ (d s : Nat) (t : Bool) (c y : Nat) (A : Option Addr) (n p : Nat), e = .returned (.tuple #[.agg #[.int .u64 d, .int .u64 s, .bool t, .int .u16 c, .int .u16 y, .slice A n p], .int .i64 (E : Int)]) ∧ Below w.heap.size w w' := by
  refine (frame_Parse hl (v := v) (w := w) (B := B) (by rw [hlen]; exact hv) hB).mono fun e w' h => ?_
  obtain ⟨lv, h1, h2, h3⟩ := h
  obtain ⟨A, c, rfl, _, _⟩ := (Sl.of_own h2).form
  rw [he] at h1
  exact ⟨_, _, _, _, _, A, _, c, h1, h3⟩
theorem err_short {l : List Nat} {k : Nat} (hlen : l.length = k) (h : k < 60) : errN l = 2 := by unfold errN; rw [hlen, if_pos h]
theorem err_bare {l : List Nat} {k : Nat} (hlen : l.length = k) (h : 60 ≤ k) (h12 : l.getD 12 0 = 8) (h13 : l.getD 13 0 = 0) : errN l = if 1514 < k then 3 else 0 := by
  have hn : num2 l 12 = 2048 := by unfold num2; rw [h12, h13]
  have ht : tagB l = false := by unfold tagB; rw [hn]; rfl
  have hh : headN l = 14 := by unfold headN; rw [ht]; rfl
  unfold errN
  have hm : meetsB 2048 (k - 14) = true := by unfold meetsB; simp
  rw [hlen, hh, if_neg (by omega), hn, hm, if_pos rfl]
theorem err_tag {l : List Nat} {k : Nat} (hlen : l.length = k) (h : 60 ≤ k) (h12 : l.getD 12 0 = 129) (h13 : l.getD 13 0 = 0) (h16 : l.getD 16 0 = 8) (h17 : l.getD 17 0 = 0) : errN l = if 1518 < k then 3 else 0 := by
  have hn : num2 l 12 = 33024 := by unfold num2; rw [h12, h13]
  have ht : tagB l = true := by unfold tagB; rw [hn]; rfl
  have hh : headN l = 18 := by unfold headN; rw [ht]; rfl
  have hn2 : num2 l 16 = 2048 := by unfold num2; rw [h16, h17]
  unfold errN
  have hm : meetsB 2048 (k - 18) = true := by unfold meetsB; simp
  rw [hlen, hh, if_neg (by omega), hn2, hm, if_pos rfl]
def zl (k : Nat) : List Nat := List.replicate k 0
theorem zl_lt (k : Nat) : ∀ x ∈ zl k, x < 256 := by intro x hx; have := List.eq_of_mem_replicate hx; omega
theorem set_lt {l : List Nat} (h : ∀ x ∈ l, x < 256) (i : Nat) {y : Nat} (hy : y < 256) : ∀ x ∈ l.set i y, x < 256 := by
  intro x hx
  rcases List.mem_or_eq_of_mem_set hx with h1 | h1
  · exact h x h1
  · omega
theorem zl_len (k : Nat) : (zl k).length = k := by simp [zl]
def zb (k : Nat) : List Nat := (zl k).set 12 8
def zt (k : Nat) : List Nat := (zb k).set 12 129
def zu (k : Nat) : List Nat := (zt k).set 16 8
theorem zb_len (k : Nat) : (zb k).length = k := by simp [zb, zl]
theorem zt_len (k : Nat) : (zt k).length = k := by simp [zt, zb, zl]
theorem zu_len (k : Nat) : (zu k).length = k := by simp [zu, zt, zb, zl]
theorem zb_lt (k : Nat) : ∀ x ∈ zb k, x < 256 := set_lt (zl_lt k) 12 (by omega)
theorem zt_lt (k : Nat) : ∀ x ∈ zt k, x < 256 := set_lt (zb_lt k) 12 (by omega)
theorem zu_lt (k : Nat) : ∀ x ∈ zu k, x < 256 := set_lt (zt_lt k) 16 (by omega)
theorem getD_set_self (l : List Nat) (i y : Nat) (h : i < l.length) : (l.set i y).getD i 0 = y := by
  rw [List.getD_eq_getElem?_getD, List.getElem?_set_self h]; rfl
theorem getD_set_ne (l : List Nat) {i j : Nat} (y : Nat) (h : i ≠ j) : (l.set i y).getD j 0 = l.getD j 0 := by
  rw [List.getD_eq_getElem?_getD, List.getElem?_set_ne h, ← List.getD_eq_getElem?_getD]
theorem zl_getD (k j : Nat) : (zl k).getD j 0 = 0 := by
  unfold zl
  rw [List.getD_eq_getElem?_getD, List.getElem?_replicate]
  split <;> rfl
theorem zb_err {k : Nat} (h : 60 ≤ k) : errN (zb k) = if 1514 < k then 3 else 0 :=
  err_bare (zb_len k) h (getD_set_self _ _ _ (by rw [zl_len]; omega)) ((getD_set_ne _ _ (by omega)).trans (zl_getD _ _))
theorem zu_err {k : Nat} (h : 60 ≤ k) : errN (zu k) = if 1518 < k then 3 else 0 :=
  err_tag (zu_len k) h ((getD_set_ne _ _ (by omega)).trans (getD_set_self _ _ _ (by rw [zb_len]; omega))) ((getD_set_ne _ _ (by omega)).trans ((getD_set_ne _ _ (by omega)).trans ((getD_set_ne _ _ (by omega)).trans (zl_getD _ _))))
    (getD_set_self _ _ _ (by rw [zt_len]; omega)) ((getD_set_ne _ _ (by omega)).trans ((getD_set_ne _ _ (by omega)).trans ((getD_set_ne _ _ (by omega)).trans (zl_getD _ _))))
end Go.Proofs.Ytiafegkjamhneaa
