/-
  slices.Clone of VLANs. No statement is proved here.
-/
import Derived.Test.YtcnfilbmmlolmaaMoV
set_option linter.unusedVariables false
namespace Go.Proofs.Ytcnfilbmmlolmaa
open Go.RowKit

set_option maxRecDepth 20000 in
set_option maxHeartbeats 3200000 in
theorem clone_vlans {w : World} {B n : Nat} {v : Value} {xs : List Value} (hn : n ≤ 1000000) (hv : Sl w B 3 v n xs) (hone : ∀ u ∈ xs, u.oneCell' = true) (hB : B ≤ w.heap.size) :
    Calls Try.prog 34 #[v] w fun e w' => ∃ u, e = .returned u ∧ w'.ownsRow w.heap.size 77 3 u n xs ∧ Below w.heap.size w w' := by
  have HS := Lib.hid hv
  obtain ⟨A, cap, rfl, h1, h2⟩ := hv.form
  have HONE := Lib.hid hone
  cases A with
  | none =>
    have hn0 : n = 0 := by
      rcases Nat.eq_zero_or_pos n with h | h
      · exact h
      · obtain ⟨b, off, c, e, _⟩ := hv.at_ h
        cases e
    subst hn0
    have hx : xs = [] := by have := hv.len; simpa using this
    subst hx
    clear hv h1 h2 HS HONE hone
    have hnil := fun (W : World) => Lib.run_eql_slice_nil (P := Try.prog) W 36 77 none 0 cap 0 0 Try.underlying36
    go_enter Try.func34, Try.ntmps34
    go_wp2_with fail
    go_ret
    exact ⟨_, rfl, ⟨by simp, .inl (by simp)⟩, Below.refl _ _⟩
  | some a =>
    clear hv h2 hone
    have hnil := fun (W : World) => Lib.run_eql_slice_nil (P := Try.prog) W 36 77 (some a) n cap 0 0 Try.underlying36
    go_enter Try.func34, Try.ntmps34
    go_wp2_with (first
      | (at_builtin; refine wpList_apv _ rfl stVlans _ _ rfl w.heap.size (.slice (some ⟨w.heap.size, 0, none⟩) 0 0) 0 [] rfl ⟨by simp, .inr ⟨w.heap.size, 0, #[], rfl, Nat.le_refl _, heap_alloc_new w _, Nat.le_refl _, by simp [maxLen], by simp, by simp⟩⟩ B _ n xs rfl (HS.out.below (by (repeat' (first | (with_reducible exact Below.refl _ _) | (with_reducible refine Below.alloc ?_ ?_ _) | go_size)))) HONE.out (by omega) (by go_size) ?_; intro A2 c2 w9 hown2 hgr2 hat2 hbel2; clear hgr2 hat2))
    have HO0 : w9.ownsRow w.heap.size 77 3 (.slice A2 n c2) n xs := by simpa using hown2
    have HO := Lib.hid HO0
    clear HO0
    have HB9 : Hid (Below w.heap.size w w9) := Below.trans ((Below.refl _ _).alloc (Nat.le_refl _) _) hbel2
    clear hown2 hbel2
    go_wp2
    go_ret
    exact ⟨_, by first | rfl | (simp; done), HO.out, HB9.out⟩
end Go.Proofs.Ytcnfilbmmlolmaa
