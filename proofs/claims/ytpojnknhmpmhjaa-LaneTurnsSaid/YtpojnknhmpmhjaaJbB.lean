/-
  A lane and the document's queues side by side, one thing behind the other. No statement is proved here.
-/
import Derived.Test.YtpojnknhmpmhjaaJbA
set_option linter.unusedVariables false
namespace Go.Proofs.Ytpojnknhmpmhjaa
open Go.RowKit

theorem stRowsU : ST Try.prog 62 23 (.slice none 0 0) 1 24 := ST.mk Try.underlying62 (by kernel_rfl) rfl (by omega) (by omega)
theorem sumL_upd {q : Nat → List Int} {k : Nat} {l : List Int} : ∀ n, (k < n → sumL (upd q k l) n + (q k).length = sumL q n + l.length) ∧ (n ≤ k → sumL (upd q k l) n = sumL q n)
  | 0 => ⟨fun h => absurd h (by omega), fun _ => rfl⟩
  | n + 1 => by
    obtain ⟨h1, h2⟩ := sumL_upd (q := q) (k := k) (l := l) n
    refine ⟨fun h => ?_, fun h => ?_⟩
    · by_cases e : k = n
      · subst e
        have := h2 (Nat.le_refl _)
        show sumL (upd q k l) k + (upd q k l k).length + _ = sumL q k + (q k).length + _
        rw [upd_same, this]
        omega
      · have := h1 (by omega)
        show sumL (upd q k l) n + (upd q k l n).length + _ = sumL q n + (q n).length + _
        rw [upd_other _ (by omega)]
        omega
    · show sumL (upd q k l) n + (upd q k l n).length = sumL q n + (q n).length
      rw [upd_other _ (by omega), h2 (by omega)]
theorem LanD.ge {w : World} {rl rg n c : Nat} {qv : Nat → Value} {q : Nat → List Int} (h : LanAt w rl rg n c qv q) {x : Nat} (hx : LanD n rg rl qv x) : rg ≤ x := by
  have := h.gl
  rcases hx with e | e | ⟨i, hi, e⟩
  · omega
  · omega
  · have := ((h.own i hi).lt x e).1; omega
/-- A block of another type is not touched. -/
theorem not_LanD {w : World} {rl rg n c : Nat} {qv : Nat → Value} {q : Nat → List Int} (h : LanAt w rl rg n c qv q) {ab M : Nat} {T : TypeId} {f : Nat → Value} (ha : w.rowIs ab T M f) (h1 : T ≠ 64) (h2 : T ≠ 23) (h3 : T ≠ 22) : ¬ LanD n rg rl qv ab := by
  obtain ⟨c1, e1, _⟩ := ha
  rintro (e | e | ⟨i, hi, e⟩)
  · subst e
    obtain ⟨c2, e2, _⟩ := h.cells
    rw [e1] at e2
    injection e2 with e2
    injection e2 with e3 e4
    exact h2 e4
  · subst e
    obtain ⟨c2, e2, _⟩ := h.row
    rw [e1] at e2
    injection e2 with e2
    injection e2 with e3 e4
    exact h1 e4
  · rcases (h.own i hi).2 with ⟨e2, _⟩ | ⟨g, cap, cur, hv, hb, hg, _⟩
    · rw [e2] at e; cases e
    · rw [hv] at e
      injection e with e
      have e : g = ab := e
      subst e
      rw [e1] at hg
      injection hg with hg
      injection hg with e3 e4
      exact h3 e4
theorem WAt.high {w w' : World} {wb lo b lb g cap n c : Nat} {v : Value} {rbs : Nat → Nat} {G : Nat → RgS} {tk : Bool} (h : WAt w wb lo b lb g cap n v rbs G c tk) {D : Nat → Prop} (ht : Tch D w w') (hD : ∀ x, D x → lb < x) : WAt w' wb lo b lb g cap n v rbs G c tk := by
  have hlo := h.lo3
  have hgl := h.lane.glt
  have h0 := h.gt 0 h.lane.one
  have h1 := h.lane.rlt 0 h.lane.one
  refine h.goL (h.lane.tch ht (fun e => by have := hD _ e; omega) (fun e => by have := hD _ e; omega)) (h.rings.tch ht (fun k h1 h2 e => by have := hD _ e; omega) (fun i hi e => by have := hD _ e; have := h.lane.rlt i hi; omega)) ht (fun x hx => .inr (.inr (by have := hD x hx; omega)))
theorem WAt.lower {w w' : World} {wb lo b lb g cap n c : Nat} {v : Value} {rbs : Nat → Nat} {G : Nat → RgS} {tk : Bool} (h : WAt w wb lo b lb g cap n v rbs G c tk) (hb : Below w.heap.size w w') : WAt w' wb lo b lb g cap n v rbs G c tk :=
  h.high (Tch.of_below (D := fun _ => False) hb) (fun x hx => hx.elim)
/-- What stands behind each round. -/
structure AloneI (W wr : World) (wb b lb g cap n sz : Nat) (v : Value) (rbs : Nat → Nat) (rl rg i : Nat) (G : Nat → RgS) (c : Nat) (m : MemS) (p t : Nat → Nat) (q : Nat → List Int) (qv : Nat → Value) : Prop where
  at_ : WAt wr wb W.heap.size b lb g cap n v rbs G c false
  que : RgsQ n G m p t q
  fl : ∀ j, j < n → (G j).sz = sz ∧ (G j).pu = false ∧ (G j).po = false
  ref : LanAt wr rl rg n c qv q
  ql : ∀ j, j < n → (q j).length ≤ sz
  pn : ∀ j, p j ≤ i
  tm : m.t ≤ 100 + 40 * (i : Int)
  t0 : 0 ≤ m.t
  high : lb < rg
  bel : Below W.heap.size W wr
section
variable {W wr : World} {wb b lb g cap n sz : Nat} {v : Value} {rbs : Nat → Nat} {rl rg i : Nat} {G : Nat → RgS} {c : Nat} {m : MemS} {p t : Nat → Nat} {q : Nat → List Int} {qv : Nat → Value}
theorem AloneI.below (h : AloneI W wr wb b lb g cap n sz v rbs rl rg i G c m p t q qv) {w' : World} (hb : Below wr.heap.size wr w') : AloneI W w' wb b lb g cap n sz v rbs rl rg i G c m p t q qv :=
  ⟨h.at_.lower hb, h.que, h.fl, h.ref.below hb, h.ql, h.pn, h.tm, h.t0, h.high, h.bel.trans (hb.mono h.bel.size)⟩
theorem AloneI.low (h : AloneI W wr wb b lb g cap n sz v rbs rl rg i G c m p t q qv) {x : Nat} (hx : TkD W.heap.size n lb rbs x) : W.heap.size ≤ x ∧ x < rg := by
  have hlo := h.at_.lo3
  have hgl := h.at_.lane.glt
  have hh := h.high
  have h0 := h.at_.gt 0 h.at_.lane.one
  have h1 := h.at_.lane.rlt 0 h.at_.lane.one
  rcases hx with e | ⟨j, hj, e⟩ | e
  · omega
  · have := h.at_.gt j hj; have := h.at_.lane.rlt j hj; omega
  · omega
theorem AloneI.took (h : AloneI W wr wb b lb g cap n sz v rbs rl rg i G c m p t q qv) {w1 : World} {ab pb kk jj : Nat} {a' : AcS} {G' : Nat → RgS} {m' : MemS} {t' : Nat → Nat} {q' : Nat → List Int} {c' : Nat} (hd : Taken wr w1 wb W.heap.size b lb g cap n v rbs G c m p t q ab pb kk jj a' G' m' t' q' c') :
    LanAt w1 rl rg n c qv q ∧ Below W.heap.size W w1 :=
  ⟨h.ref.tch hd.tch (fun k h1 _ e => by have := (h.low e).2; omega), hd.tch.below h.bel (fun x hx => (h.low hx).1) h.bel.size⟩
theorem AloneI.next (h : AloneI W wr wb b lb g cap n sz v rbs rl rg i G c m p t q qv) (hn : n ≤ 8) {w1 w2 : World} {ab pb kk jj : Nat} {a' : AcS} {G' : Nat → RgS} {m' : MemS} {t' : Nat → Nat} {q' : Nat → List Int} {c' : Nat} {qv' : Nat → Value} (hd : Taken wr w1 wb W.heap.size b lb g cap n v rbs G c m p t q ab pb kk jj a' G' m' t' q' c')
    (hl : LanAt w2 rl rg n c' qv' q') (ht : Tch (LanD n rg rl qv) w1 w2) (hq : ∀ j, j < n → (q' j).length ≤ sz) :
    AloneI W w2 wb b lb g cap n sz v rbs rl rg (i + 1) G' c' m' p t' q' qv' ∧ LActAt w2 ab none (some ⟨pb, 0, none⟩) kk jj ∧ ActAt w2 (rbs kk) pb a' := by
  obtain ⟨hr, hb⟩ := h.took hd
  have hh := h.high
  refine ⟨⟨hd.at_.high ht (fun x hx => by have := LanD.ge hr hx; omega), hd.que, fun j hj => ⟨(hd.sz j hj).trans (h.fl j hj).1, (hd.pu j hj).trans (h.fl j hj).2.1, hd.po j hj⟩, hl, hq, fun j => by have := h.pn j; omega, by have := hd.tm.2; have := h.tm; omega, by have := hd.tm.1; have := h.t0; omega, hh, ht.below hb (fun x hx => ?_) hb.size⟩, hd.act.tch ht (not_LanD hr hd.act (by decide) (by decide) (by decide)), hd.ract.tch ht (not_LanD hr hd.ract (by decide) (by decide) (by decide))⟩
  have h1 := LanD.ge hr hx
  have h2 := (h.low (x := lb) (.inr (.inr rfl))).1
  omega
theorem AloneI.put (h : AloneI W wr wb b lb g cap n sz v rbs rl rg i G c m p t q qv) {k : Nat} (hk : k < n) {x : Int} {w1 : World} {G' : Nat → RgS} {m' : MemS} {p' : Nat → Nat} (hd : PutDid wr wb W.heap.size b lb g cap n v rbs G c false m p t q k x w1 G' m' p') :
    LanAt w1 rl rg n c qv q ∧ Below W.heap.size W w1 := by
  have key : ∀ y, MemD W.heap.size (rbs k) y → TkD W.heap.size n lb rbs y := fun y hy => by
    rcases hy with e | e
    · exact .inl e
    · exact .inr (.inl ⟨k, hk, e⟩)
  exact ⟨h.ref.tch hd.tch (fun y h1 _ e => by have := (h.low (key y e)).2; omega), hd.tch.below h.bel (fun y hy => (h.low (key y hy)).1) h.bel.size⟩
theorem AloneI.grew (h : AloneI W wr wb b lb g cap n sz v rbs rl rg i G c m p t q qv) {k : Nat} (hk : k < n) {x : Int} {w1 w2 : World} {G' : Nat → RgS} {m' : MemS} {p' : Nat → Nat} (hd : PutDid wr wb W.heap.size b lb g cap n v rbs G c false m p t q k x w1 G' m' p') {q' : Nat → List Int} {qv' : Nat → Value}
    (hl : LanAt w2 rl rg n c qv' q') (ht : Tch (LanD n rg rl qv) w1 w2) (hqq : RgsQ n G' m' p' t q') (hq : ∀ j, j < n → (q' j).length ≤ sz) :
    AloneI W w2 wb b lb g cap n sz v rbs rl rg (i + 1) G' c m' p' t q' qv' := by
  obtain ⟨hr, hb⟩ := h.put hk hd
  have hh := h.high
  refine ⟨hd.at_.high ht (fun x hx => by have := LanD.ge hr hx; omega), hqq, fun j hj => ⟨(hd.alike.sz j hj).trans (h.fl j hj).1, (hd.alike.pu j hj).trans (h.fl j hj).2.1, (hd.alike.po j hj).trans (h.fl j hj).2.2⟩, hl, hq, fun j => by have := h.pn j; have := hd.pn j; omega, by have := hd.tm.2; have := h.tm; omega, by have := hd.tm.1; have := h.t0; omega, hh, ht.below hb (fun x hx => ?_) hb.size⟩
  have h1 := LanD.ge hr hx
  have h2 := (h.low (x := lb) (.inr (.inr rfl))).1
  omega
end
end Go.Proofs.Ytpojnknhmpmhjaa
