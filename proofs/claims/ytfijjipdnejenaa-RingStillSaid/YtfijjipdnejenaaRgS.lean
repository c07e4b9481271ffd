/-
  An act that stands still behind some steps: what the ring is then. No statement is proved here.
-/
import Derived.Test.YtfijjipdnejenaaRgU
set_option linter.unusedVariables false
namespace Go.Proofs.Ytfijjipdnejenaa
open Go.RowKit

theorem stepR_stays (g : RgS) (a : AcS) (h : a.stage = 0) : stepR g a = (g, a) := iterR_over 1 (g, a) h
theorem iter_any (n : Nat) : ∀ x : RgS × AcS, x.2.stage ≤ 4 → (iterR n x).2.stage ≤ 4 ∧ (iterR n x).1.m.t ≤ x.1.m.t + n := by
  induction n with
  | zero => intro x h; exact ⟨h, by show x.1.m.t ≤ x.1.m.t + ((0 : Nat) : Int); omega⟩
  | succ n ih =>
    intro x h
    obtain ⟨g, a⟩ := x
    simp only at h
    by_cases h0 : a.stage = 0
    · have := iterR_over (n + 1) (g, a) h0
      rw [this]
      exact ⟨h, by show g.m.t ≤ g.m.t + ((n + 1 : Nat) : Int); omega⟩
    · have st := stayR g a (by omega) h
      obtain ⟨i1, i2⟩ := ih (stepR g a) st.most
      have := st.t
      exact ⟨i1, by show (iterR n (stepR g a)).1.m.t ≤ g.m.t + ((n + 1 : Nat) : Int); omega⟩
theorem still_push : ∀ (n : Nat) {g : RgS} {p t : Nat} {q : List Int} {a : AcS}, RngQ g p t q → PushK g p t a → p + 1 ≤ 1000000 →
    (iterR n (g, a)).1.po = g.po ∧ (iterR n (g, a)).1.sz = g.sz ∧ ∃ p' q', p' ≤ p + 1 ∧ RngQ (iterR n (g, a)).1 p' t q' ∧ (q'.length = q.length ∨ q'.length = q.length + 1) := by
  intro n
  induction n with
  | zero => intro g p t q a h k hf; exact ⟨rfl, rfl, p, q, by omega, h, .inl rfl⟩
  | succ n ih =>
    intro g p t q a h k hf
    obtain ⟨hs, hnum, hpo⟩ := push_step h k hf
    have st := stayR g a k.2.1 k.2.2.1
    show (iterR n (stepR g a)).1.po = g.po ∧ (iterR n (stepR g a)).1.sz = g.sz ∧ ∃ p' q', p' ≤ p + 1 ∧ RngQ (iterR n (stepR g a)).1 p' t q' ∧ (q'.length = q.length ∨ q'.length = q.length + 1)
    generalize stepR g a = x at *
    obtain ⟨g1, a1⟩ := x
    simp only at hs hnum hpo st
    cases hs with
    | on h1 k1 hp =>
      obtain ⟨e1, e2, e3⟩ := ih h1 k1 hf
      exact ⟨e1.trans hpo, e2.trans st.sz, e3⟩
    | did h1 e1 e2 e3 e4 e5 =>
      rw [iterR_over n (g1, a1) e1]
      exact ⟨hpo, st.sz, p + 1, _, Nat.le_refl _, h1, .inr (by simp)⟩
    | full h1 e1 e2 e3 e4 e5 =>
      rw [iterR_over n (g1, a1) e1]
      exact ⟨hpo, st.sz, p, q, by omega, h1, .inl rfl⟩
theorem still_pop : ∀ (n : Nat) {g : RgS} {p t : Nat} {q : List Int} {a : AcS}, RngQ g p t q → PopK g p t a →
    (iterR n (g, a)).1.pu = g.pu ∧ (iterR n (g, a)).1.sz = g.sz ∧ ∃ t' q', RngQ (iterR n (g, a)).1 p t' q' ∧ (q'.length = q.length ∨ q'.length + 1 = q.length) := by
  intro n
  induction n with
  | zero => intro g p t q a h k; exact ⟨rfl, rfl, t, q, h, .inl rfl⟩
  | succ n ih =>
    intro g p t q a h k
    obtain ⟨hs, hpu⟩ := pop_step h k
    have st := stayR g a k.2.1 k.2.2.1
    show (iterR n (stepR g a)).1.pu = g.pu ∧ (iterR n (stepR g a)).1.sz = g.sz ∧ ∃ t' q', RngQ (iterR n (stepR g a)).1 p t' q' ∧ (q'.length = q.length ∨ q'.length + 1 = q.length)
    generalize stepR g a = x at *
    obtain ⟨g1, a1⟩ := x
    simp only at hs hpu st
    cases hs with
    | on h1 k1 hp =>
      obtain ⟨e1, e2, e3⟩ := ih h1 k1
      exact ⟨e1.trans hpu, e2.trans st.sz, e3⟩
    | did x r e h1 e1 e2 en e3 e5 =>
      rw [iterR_over n (g1, a1) e1]
      exact ⟨hpu, st.sz, t + 1, r, h1, .inr (by rw [e]; simp)⟩
    | none e h1 e1 e2 e3 e5 =>
      rw [iterR_over n (g1, a1) e1]
      exact ⟨hpu, st.sz, t, q, h1, .inl rfl⟩
end Go.Proofs.Ytfijjipdnejenaa
