/-
  slices.Delete of the first number of a row of its own. No statement is proved here.
-/
import Derived.Test.YtcnfilbmmlolmaaBkA
import Derived.Test.YtcnfilbmmlolmaaMzA
import Derived.Deep.RegionLaw
set_option linter.unusedVariables false
namespace Go.Proofs.Ytcnfilbmmlolmaa
open Go.RowKit

theorem infoInt : (Try.prog.info? 3).map (fun i => (i.zero, i.size, i.bytes)) = some (some (.int .i64 0), 1, 8) := by kernel_rfl
/-- A list written over from a place on. -/
def overL : List Value → Nat → List Value → List Value
  | xs, _, [] => xs
  | xs, o, v :: vs => overL (xs.set o v) (o + 1) vs
theorem overL_length : ∀ (vs xs : List Value) (o : Nat), (overL xs o vs).length = xs.length
  | [], xs, o => rfl
  | v :: vs, xs, o => by unfold overL; rw [overL_length vs]; simp
theorem overL_low : ∀ (vs xs : List Value) (o j : Nat), j < o → (overL xs o vs)[j]? = xs[j]?
  | [], xs, o, j, _ => rfl
  | v :: vs, xs, o, j, h => by
    unfold overL
    rw [overL_low vs _ _ _ (by omega), List.getElem?_set_ne (by omega)]
theorem overL_at : ∀ (vs xs : List Value) (o j : Nat), j < vs.length → o + j < xs.length → (overL xs o vs)[o + j]? = vs[j]?
  | [], xs, o, j, h, _ => by simp at h
  | v :: vs, xs, o, 0, h, h2 => by
    unfold overL
    rw [overL_low vs _ _ _ (by omega)]
    simp only [Nat.add_zero] at h2 ⊢
    rw [List.getElem?_set_self h2]
    rfl
  | v :: vs, xs, o, j + 1, h, h2 => by
    unfold overL
    rw [show o + (j + 1) = o + 1 + j by omega, overL_at vs _ _ _ (by simpa using h) (by rw [List.length_set]; omega)]
    rfl
theorem own_over {L n cap b : Nat} {e : TypeId} : ∀ (vs : List Value) (o : Nat) (w : World) (xs : List Value), w.ownsRow L e 1 (.slice (some ⟨b, 0, none⟩) n cap) n xs → (w.setCells b o vs).ownsRow L e 1 (.slice (some ⟨b, 0, none⟩) n cap) n (overL xs o vs)
  | [], _, _, _, h => h
  | v :: vs, o, w, xs, h => own_over vs (o + 1) _ _ (h.stored o v).1
theorem own_cut {w : World} {L n cap b : Nat} {e : TypeId} {xs : List Value} (h : w.ownsRow L e 1 (.slice (some ⟨b, 0, none⟩) (n + 1) cap) (n + 1) xs) : w.ownsRow L e 1 (.slice (some ⟨b, 0, none⟩) n cap) n (xs.take n) := by
  refine ⟨by have := h.1; rw [List.length_take]; omega, ?_⟩
  rcases h.2 with hn | ⟨g, cap', cur, hv, hb, hg, hnc, hcm, hcs, ht⟩
  · cases hn.1
  · simp only [Value.slice.injEq, Option.some.injEq, Addr.mk.injEq, and_true, true_and] at hv
    obtain ⟨rfl, rfl⟩ := hv
    refine .inr ⟨b, cap, cur, rfl, hb, hg, by omega, hcm, hcs, ?_⟩
    rw [← ht, List.take_take]
    congr 1
    omega
theorem But.setCells {q : Nat} : ∀ (vs : List Value) (o : Nat) (w : World), But q w (w.setCells q o vs)
  | [], _, w => ⟨Below.refl _ _, fun _ _ _ => rfl⟩
  | v :: vs, o, w => (But.set o v).trans (But.setCells vs (o + 1) _)
set_option maxRecDepth 100000 in
set_option maxHeartbeats 1600000 in
theorem delete_first {w : World} {L n cap b : Nat} {x : Int} {l : List Int} (hown : w.ownsRow L 3 1 (.slice (some ⟨b, 0, none⟩) (n + 1) cap) (n + 1) (kv .i64 (x :: l))) :
    Calls Try.prog 91 #[.slice (some ⟨b, 0, none⟩) (n + 1) cap, .int .i64 0, .int .i64 1] w fun e w' => e = .returned (.slice (some ⟨b, 0, none⟩) n cap) ∧ w'.ownsRow L 3 1 (.slice (some ⟨b, 0, none⟩) n cap) n (kv .i64 l) ∧ But b w w' := by
  obtain ⟨i0, hi0, hz0, hz1, hz2⟩ := info_parts infoInt
  obtain ⟨hnc, hcm⟩ : n + 1 ≤ cap ∧ cap ≤ maxLen := by
    rcases hown.2 with hn | ⟨g, cap', cur, hv, hb, hg, hnc, hcm, hcs, ht⟩
    · cases hn.1
    · simp only [Value.slice.injEq, Option.some.injEq, Addr.mk.injEq, and_true, true_and] at hv
      obtain ⟨rfl, rfl⟩ := hv
      exact ⟨hnc, hcm⟩
  unfold maxLen at hcm
  have hlen : (kv .i64 (x :: l)).length = n + 1 := by have := hown.1; omega
  have hl : (kv .i64 l).length = n := by simp [kv] at hlen ⊢; omega
  have hc : ∀ j, j < n + 1 → w.cell? ⟨b, j, none⟩ = (kv .i64 (x :: l))[j]? := fun j hj => hown.cellAt j (by omega)
  have hf : ∀ j, w.frozen? ⟨b, j, none⟩ = false := fun j => hown.frozenAt j
  obtain ⟨A, hA, hnews⟩ : ∃ A : Addr, (if cap = 1 then some (⟨b, 0, none⟩ : Addr) else some ⟨b, 1, none⟩) = some A ∧ Hid (∀ j u, (kv .i64 l)[j]? = some u → w.drew.cell? (A.add j) = some u) := by
    by_cases h : cap = 1
    · refine ⟨⟨b, 0, none⟩, by simp [h], fun j u hu => ?_⟩
      have h0 : (kv .i64 l).length = 0 := by omega
      rw [List.length_eq_zero_iff.1 h0] at hu
      simp at hu
    · refine ⟨⟨b, 1, none⟩, by simp [h], fun j u hu => ?_⟩
      have hj : j < n := by
        have := (List.getElem?_eq_some_iff.1 hu).1
        omega
      rw [Addr.add_lit, show 1 + j = j + 1 by omega]
      exact (hc (j + 1) (by omega)).trans (by rw [← hu]; rfl)
  have s1 : Hid ((kv .i64 l).length = n * 1) := by show _ = _; omega
  have s2 : Hid (∀ u ∈ kv .i64 l, u.oneCell' = true) := by
    intro u hu
    obtain ⟨y, _, rfl⟩ := List.mem_map.1 hu
    rfl
  have s3 : Hid (∀ j, j < (kv .i64 l).length → (w.drew.cell? ⟨b, 0 + 0 * 1 + j, none⟩).isSome = true ∧ w.drew.frozen? ⟨b, 0 + 0 * 1 + j, none⟩ = false) := by
    intro j hj
    rw [show 0 + 0 * 1 + j = j by omega]
    refine ⟨?_, hf j⟩
    show (w.cell? _).isSome = true
    rw [hc j (by omega), List.getElem?_eq_getElem (show j < (kv .i64 (x :: l)).length by omega)]
    rfl
  obtain ⟨X, hX⟩ : ∃ X, X = kv .i64 l := ⟨_, rfl⟩
  have HOWN := Lib.hid hown
  rw [← hX] at hnews s1 s2 s3
  have HX := Lib.hid hX
  have HL := Lib.hid hl
  have hp1 : (1 : Int) ≤ (n : Int) + 1 := by omega
  have hp2 : (n : Int) ≤ (n : Int) + 1 := by omega
  have hp3 : ¬ cap = n := by omega
  clear hc hf hown hl hlen hX
  go_enter Try.func91, Try.ntmps91
  go_wp2_with fail
  go_region_law (refine step_append_room rfl (.tmp 22) (.tmp 25) 55 rfl 3 i0 1 Try.underlying55 hi0 hz1 b 0 0 cap (by simp [Act.eval, Act.put]) A n (cap - 1) X (by simp [Act.eval, Act.put]) s1.out hnews.out s2.out (by omega) s3.out ?_)
  obtain ⟨w2, hw2⟩ : ∃ z, z = w.drew.setCells b 0 X := ⟨_, rfl⟩
  have HO2 : Hid (w2.ownsRow L 3 1 (.slice (some ⟨b, 0, none⟩) (n + 1) cap) (n + 1) (overL (kv .i64 (x :: l)) 0 X)) := by
    rw [hw2]
    exact own_over X 0 _ _ (own_below HOWN.out (Below.refl _ _).drew)
  have HB2 : Hid (But b w w2) := by
    rw [hw2]
    exact (But.of (Below.refl _ _).drew (by have := (HOWN.out.lt b rfl).2; omega)).trans (But.setCells X 0 _)
  obtain ⟨yl, y1⟩ : ∃ y, w2.cell? ⟨b, n, none⟩ = some y := by
    have h1 := HO2.out.cellAt n (by omega)
    rw [List.getElem?_eq_getElem (show n < (overL (kv .i64 (x :: l)) 0 X).length by have := HO2.out.1; omega)] at h1
    exact ⟨_, h1⟩
  have f1 : w2.frozen? ⟨b, n, none⟩ = false := HO2.out.frozenAt n
  rw [← hw2]
  clear hw2 hA hnews s1 s2 s3
  have hy1 : ∀ j, j < 1 → (w2.cell? ⟨b, n + j, none⟩).isSome = true := fun j hj => by
    obtain rfl : j = 0 := by omega
    rw [Nat.add_zero, y1]
    rfl
  have hy2 : ∀ j, j < 1 → w2.frozen? ⟨b, n + j, none⟩ = false := fun j hj => by
    obtain rfl : j = 0 := by omega
    exact f1
  have hcl : (Builtin.clear_ #[55] 0 #[.slice (some ⟨b, n, none⟩) 1 (cap - n)]).run Try.prog w2 = .ok (.tuple #[]) (w2.setCell ⟨b, n, none⟩ (.int .i64 0)) :=
    Lib.run_clear_slice w2 55 3 0 (.int .i64 0) Try.underlying55 (fun w => by kernel_rfl) rfl rfl b n 1 (cap - n) (by omega) hy1 hy2
  clear hy1 hy2
  go_wp2
  go_ret
  have h3 := own_cut (HO2.out.stored n (.int .i64 0)).1
  have hx : ((overL (kv .i64 (x :: l)) 0 X).set n (.int .i64 0)).take n = kv .i64 l := by
    have hX := HX.out
    have hl := HL.out
    apply List.ext_getElem?
    intro j
    by_cases hj : j < n
    · rw [List.getElem?_take, if_pos hj, List.getElem?_set_ne (by omega)]
      have := overL_at X (kv .i64 (x :: l)) 0 j (by rw [hX]; omega) (by have := HOWN.out.1; omega)
      rw [Nat.zero_add] at this
      rw [this, hX]
    · rw [List.getElem?_take, if_neg hj, List.getElem?_eq_none (by omega)]
  rw [hx] at h3
  exact ⟨by first | rfl | (simp; done), h3, HB2.out.trans (But.set n _)⟩
end Go.Proofs.Ytcnfilbmmlolmaa
