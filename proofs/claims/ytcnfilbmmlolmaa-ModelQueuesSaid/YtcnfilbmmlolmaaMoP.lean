/-
  What a model tells of itself: Vlans, Queue. No statement is proved here.
-/
import Derived.Test.YtcnfilbmmlolmaaMoD
import Derived.Test.YtcnfilbmmlolmaaMoR
set_option linter.unusedVariables false
namespace Go.Proofs.Ytcnfilbmmlolmaa
open Go.RowKit

theorem kv_onesM (L : List Int) : ∀ u ∈ kv .i64 L, u.oneCell' = true := by
  intro u hu
  simp only [kv, List.mem_map] at hu
  obtain ⟨x, _, rfl⟩ := hu
  rfl
set_option maxRecDepth 20000 in
set_option maxHeartbeats 3200000 in
theorem clone_ints {w : World} {B n : Nat} {v : Value} {xs : List Value} (hn : n ≤ 1000000) (hv : Sl w B 1 v n xs) (hone : ∀ u ∈ xs, u.oneCell' = true) (hB : B ≤ w.heap.size) :
    Calls Try.prog 63 #[v] w fun e w' => ∃ u, e = .returned u ∧ w'.ownsRow w.heap.size 3 1 u n xs ∧ Below w.heap.size w w' := by
  have HS := Lib.hid hv
  obtain ⟨A, cap, rfl, h1, h2⟩ := hv.form
  have HONE := Lib.hid hone
  cases A with
  | none =>
    have hn0 : n = 0 := by
      rcases Nat.eq_zero_or_pos n with h | h
      · exact h
      · obtain ⟨b, off, c, e, _⟩ := hv.at_ h
        cases e
    subst hn0
    have hx : xs = [] := by have := hv.len; simpa using this
    subst hx
    clear hv h1 h2 HS HONE hone
    have hnil := fun (W : World) => Lib.run_eql_slice_nil (P := Try.prog) W 55 3 none 0 cap 0 0 Try.underlying55
    go_enter Try.func63, Try.ntmps63
    go_wp2_with fail
    go_ret
    exact ⟨_, rfl, ⟨by simp, .inl (by simp)⟩, Below.refl _ _⟩
  | some a =>
    clear hv h2 hone
    have hnil := fun (W : World) => Lib.run_eql_slice_nil (P := Try.prog) W 55 3 (some a) n cap 0 0 Try.underlying55
    go_enter Try.func63, Try.ntmps63
    go_wp2_with (first
      | (at_builtin; refine wpList_apv _ rfl stIntM _ _ rfl w.heap.size (.slice (some ⟨w.heap.size, 0, none⟩) 0 0) 0 [] rfl ⟨by simp, .inr ⟨w.heap.size, 0, #[], rfl, Nat.le_refl _, heap_alloc_new w _, Nat.le_refl _, by simp [maxLen], by simp, by simp⟩⟩ B _ n xs rfl (HS.out.below (by (repeat' (first | (with_reducible exact Below.refl _ _) | (with_reducible refine Below.alloc ?_ ?_ _) | go_size)))) HONE.out (by omega) (by go_size) ?_; intro A2 c2 w9 hown2 hgr2 hat2 hbel2; clear hgr2 hat2))
    have HO0 : w9.ownsRow w.heap.size 3 1 (.slice A2 n c2) n xs := by simpa using hown2
    have HO := Lib.hid HO0
    clear HO0
    have HB9 : Hid (Below w.heap.size w w9) := Below.trans ((Below.refl _ _).alloc (Nat.le_refl _) _) hbel2
    clear hown2 hbel2
    go_wp2
    go_ret
    exact ⟨_, by first | rfl | (simp; done), HO.out, HB9.out⟩

set_option maxHeartbeats 1600000 in
theorem model_Vlans {w : World} {L A S1 Q bp : Nat} {uv : Value} {P r nv : Nat} {lv : List Vl} {st : Nat → Int × Nat} {G : Nat → Value} (h : MdAt w L A S1 Q uv (.pointer (some ⟨bp, 0, none⟩)) P r nv lv st G) (hnv : nv ≤ 1000) :
    Calls Try.prog 16 #[.pointer (some ⟨A, 0, none⟩)] w fun e w' => ∃ u, e = .returned u ∧ w'.ownsRow w.heap.size 77 3 u nv (vlc lv) ∧ Below w.heap.size w w' := by
  have HN := Lib.hid (model_isNone h)
  have HC := Lib.hid fun w' (hb : Below w.heap.size w w') => clone_vlans (by omega) (Sl.of_own (own_below h.vlans hb)) (vlc_one lv) (Nat.le_refl _)
  have HH := Lib.hid h
  clear h
  go_enter Try.func16, Try.ntmps16
  go_wp2_with (first
    | (go_at_call 43; (with_reducible refine Calls.mono HN.out ?_); rintro e w1 ⟨rfl, hb⟩; (have HB := Lib.hid hb); (have c2 : w1.cell? ⟨A, 2, none⟩ = some uv := (HH.out.call hb).cells.cell (by omega)); clear hb)
    | (go_at_call 34; (with_reducible refine Calls.mono (HC.out _ HB.out) ?_); rintro e w2 ⟨u, rfl, ho, hb⟩; (have HO := Lib.hid (own_base ho HB.out.size)); (have HB2 := Lib.hid (HB.out.trans (hb.mono HB.out.size))); clear ho hb)
    | fail)
  go_ret
  exact ⟨_, by first | rfl | (simp; done), HO.out, HB2.out⟩
set_option maxHeartbeats 1600000 in
theorem model_Queue {w : World} {L A S1 Q bp : Nat} {uv : Value} {P r nv : Nat} {lv : List Vl} {st : Nat → Int × Nat} {G : Nat → Value} {R : Nat → Nat} {qv : Nat → Nat → Value} {qs : Nat → Nat → List Int} (h : MdAt w L A S1 Q uv (.pointer (some ⟨bp, 0, none⟩)) P r nv lv st G) (hQ : QuAt w L P R G qv qs) (i j : Nat) (hi : i < P) (hj : j < P) (hlen : (qs i j).length ≤ 1000000) :
    Calls Try.prog 18 #[.pointer (some ⟨A, 0, none⟩), .int .i64 (i : Nat), .int .i64 (j : Nat)] w fun e w' => ∃ u, e = .returned u ∧ w'.ownsRow w.heap.size 3 1 u (qs i j).length (kv .i64 (qs i j)) ∧ Below w.heap.size w w' := by
  have hp1 := fun w' (hb : Below w.heap.size w w') => model_isPort (h.call hb) (i : Int)
  have hp2 := fun w' (hb : Below w.heap.size w w') => model_isPort (h.call hb) (j : Int)
  have e1 : portB P (i : Int) = true := by unfold portB; simp; omega
  have e2 : portB P (j : Int) = true := by unfold portB; simp; omega
  rw [e1] at hp1
  rw [e2] at hp2
  have HP1 := Lib.hid hp1
  have HP2 := Lib.hid hp2
  have HC := Lib.hid fun w' (hb : Below w.heap.size w w') => clone_ints hlen (Sl.of_own (own_below (hQ.own i j hi hj) hb)) (kv_onesM (qs i j)) (Nat.le_refl _)
  have d1 : decide (i < P) = true := decide_eq_true hi
  have d2 : decide (j < P) = true := decide_eq_true hj
  have HCQ : Hid (∀ w', Below w.heap.size w w' → w'.cell? ⟨A, 4, none⟩ = some (.slice (some ⟨Q, 0, none⟩) P P) ∧ w'.cell? ⟨Q, i, none⟩ = some (.slice (some ⟨R i, 0, none⟩) P P) ∧ w'.cell? ⟨R i, j, none⟩ = some (qv i j)) := fun w' hb => by
    have hm := h.call hb
    have hq := hQ.call hb
    exact ⟨hm.cells.cell (by omega), (hm.queues.cell hi).trans (by rw [hq.at_ i hi]), (hq.row i hi).cell hj⟩
  clear h hQ hp1 hp2 e1 e2
  go_enter Try.func18, Try.ntmps18
  go_wp2_with (first
    | (go_at_call 62; (with_reducible refine Calls.mono (HP1.out _ (Below.refl _ _)) ?_); rintro e w1 ⟨rfl, hb⟩; (have HB1 := Lib.hid hb); clear hb)
    | (go_at_call 62; (with_reducible refine Calls.mono (HP2.out _ HB1.out) ?_); rintro e w2 ⟨rfl, hb⟩; (have HB := Lib.hid (HB1.out.trans (hb.mono HB1.out.size))); (obtain ⟨c4, cq, cr⟩ := HCQ.out _ HB.out); clear hb)
    | (go_at_call 63; (with_reducible refine Calls.mono (HC.out _ HB.out) ?_); rintro e w3 ⟨u, rfl, ho, hb⟩; (have HO := Lib.hid (own_base ho HB.out.size)); (have HB2 := Lib.hid (HB.out.trans (hb.mono HB.out.size))); clear ho hb)
    | fail)
  go_ret
  exact ⟨_, by first | rfl | (simp; done), HO.out, HB2.out⟩
end Go.Proofs.Ytcnfilbmmlolmaa
