/-
  An act alone, to its end, and the queue beside it: what is put, what is taken. No statement is proved here.
-/
import Derived.Test.YtpojnknhmpmhjaaRgT
set_option linter.unusedVariables false
namespace Go.Proofs.Ytpojnknhmpmhjaa
open Go.RowKit

theorem que_PopU {w : World} {qb n : Nat} {v : Value} {q : List Int} (h : QueAt w qb n v q) (hn : q.length ≤ 100000) :
    Calls Try.prog 16 #[.pointer (some ⟨qb, 0, none⟩)] w (QueDid qb n v q.tail (.tuple #[.int .u64 (q.headD 0), .bool (!q.isEmpty)]) w) := by
  cases q with
  | nil =>
    refine (que_Pop0 h).mono fun e w' hh => ?_
    obtain ⟨he, hw⟩ := hh
    subst hw
    exact ⟨he, v, h, Tch.refl _ _, .inl rfl⟩
  | cons x r => exact que_Pop (q := r) h (by simp at hn; omega)
/-- What is left when an act is over. -/
structure Left (g g' : RgS) (a' : AcS) : Prop where
  stage : a'.stage = 0
  mark : a'.mark = g'.m.t
  t1 : g.m.t < g'.m.t
  t2 : g'.m.t ≤ g.m.t + 4
  sz : g'.sz = g.sz
theorem finish_pop {w : World} {lo b rb ab p t : Nat} {g : RgS} {q : List Int} (hr : RingAt w lo b rb { g with po := true }) (ha : ActAt w rb ab ⟨false, 1, 0, 0, false, 0⟩) (h1 : lo + 3 ≤ ab) (h2 : ab ≠ rb) (ht : g.m.t ≤ 4611686018427380000) (hq : RngQ g p t q) :
    Calls Try.prog 17 #[.pointer (some ⟨ab, 0, none⟩)] w fun e w' => ∃ g' a' t', e = .returned (.bool true) ∧ RingAt w' lo b rb g' ∧ ActAt w' rb ab a' ∧ Tch (RingD lo rb ab) w w' ∧ Left g g' a' ∧ g'.pu = g.pu ∧ g'.po = false ∧ a'.ok = (!q.isEmpty) ∧ (if a'.ok = true then a'.num else 0) = q.headD 0 ∧ RngQ g' p t' q.tail ∧ ((a'.ok = true ∧ t' = t + 1 ∧ ∀ o, PushK g p t o → PushK g' p (t + 1) o) ∨ (a'.ok = false ∧ t' = t ∧ q = [] ∧ ∀ o, PushK g p t o → PushK g' p t o)) := by
  have he := (pop_end 4 (hq.po true) (popK0 _ p t) (by simp) (by omega)).1
  refine (act_finish hr ha h1 h2 ht rfl).mono fun e w' hh => ?_
  obtain ⟨e0, e1, e2, e3⟩ := hh
  generalize iterR 4 ({ g with po := true }, (⟨false, 1, 0, 0, false, 0⟩ : AcS)) = x at *
  obtain ⟨g', a'⟩ := x
  have hl : Left g g' a' := ⟨he.stage, he.mark, he.t1, he.t2, he.sz⟩
  rcases he.res with ⟨r1, ⟨x, r, rq, rn, rr⟩, ro⟩ | ⟨r1, rq, rr, ro⟩
  · subst rq
    have r1 : a'.ok = true := r1
    exact ⟨g', a', t + 1, e0, e1, e2, e3, hl, he.pu, he.po, r1, by rw [if_pos r1]; exact rn, rr, .inl ⟨r1, rfl, fun o ho => ro o ho⟩⟩
  · subst rq
    have r1 : a'.ok = false := r1
    exact ⟨g', a', t, e0, e1, e2, e3, hl, he.pu, he.po, r1, by rw [if_neg (by simp [r1])]; rfl, rr, .inr ⟨r1, rfl, rfl, fun o ho => ro o ho⟩⟩
theorem finish_push {w : World} {lo b rb ab p t : Nat} {g : RgS} {q : List Int} {x : Int} (hr : RingAt w lo b rb { g with pu := true }) (ha : ActAt w rb ab ⟨true, 1, 0, x, false, 0⟩) (h1 : lo + 3 ≤ ab) (h2 : ab ≠ rb) (ht : g.m.t ≤ 4611686018427380000) (hq : RngQ g p t q) (hf : p + 1 ≤ 1000000) :
    Calls Try.prog 17 #[.pointer (some ⟨ab, 0, none⟩)] w fun e w' => ∃ g' a' p', e = .returned (.bool true) ∧ RingAt w' lo b rb g' ∧ ActAt w' rb ab a' ∧ Tch (RingD lo rb ab) w w' ∧ Left g g' a' ∧ g'.pu = false ∧ g'.po = g.po ∧ a'.ok = decide (q.length < g.sz) ∧ a'.num = x ∧ RngQ g' p' t (if q.length < g.sz then q ++ [x] else q) ∧ p' ≤ p + 1 ∧ ((a'.ok = true ∧ p' = p + 1 ∧ ∀ o, PopK g p t o → PopK g' (p + 1) t o) ∨ (a'.ok = false ∧ p' = p ∧ ∀ o, PopK g p t o → PopK g' p t o)) := by
  have he := (push_end 4 (hq.pu true) (pushK0 _ p t x) hf (by simp) (by omega)).1
  refine (act_finish hr ha h1 h2 ht rfl).mono fun e w' hh => ?_
  obtain ⟨e0, e1, e2, e3⟩ := hh
  generalize iterR 4 ({ g with pu := true }, (⟨true, 1, 0, x, false, 0⟩ : AcS)) = y at *
  obtain ⟨g', a'⟩ := y
  have hl : Left g g' a' := ⟨he.stage, he.mark, he.t1, he.t2, he.sz⟩
  rcases he.res with ⟨r1, rl, rr, ro⟩ | ⟨r1, rl, rr, ro⟩
  · have rl : q.length < g.sz := rl
    have r1 : a'.ok = true := r1
    exact ⟨g', a', p + 1, e0, e1, e2, e3, hl, he.pu, he.po, by rw [decide_eq_true rl]; exact r1, he.num, by rw [if_pos rl]; exact rr, Nat.le_refl _, .inl ⟨r1, rfl, fun o ho => ro o ho⟩⟩
  · have rl : ¬ q.length < g.sz := by have : q.length = g.sz := rl; omega
    have r1 : a'.ok = false := r1
    exact ⟨g', a', p, e0, e1, e2, e3, hl, he.pu, he.po, by rw [decide_eq_false rl]; exact r1, he.num, by rw [if_neg rl]; exact rr, Nat.le_succ _, .inr ⟨r1, rfl, fun o ho => ro o ho⟩⟩
end Go.Proofs.Ytpojnknhmpmhjaa
