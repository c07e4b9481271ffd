/-
  Some put and one takes: how each ends what is under way, once all turns are over. No statement is proved here.
-/
import Derived.Test.YtpojnknhmpmhjaaLnQ
set_option linter.unusedVariables false
namespace Go.Proofs.Ytpojnknhmpmhjaa
open Go.RowKit

section
variable {W wr : World} {wb b lb g cap n : Nat} {v : Value} {rbs : Nat → Nat} {r i ip st : Nat} {at_ : Nat → Nat} {nb : Nat → Option Nat} {qv : Nat → Value} {ql : Nat → List Int} {G : Nat → RgS} {c : Nat} {m : MemS} {p t : Nat → Nat} {q : Nat → List Int} {pa : Nat → AcS} {T : Option TkN} {T' : TkN} {L : Nat → Nat → Int} {N : Nat → Nat}
theorem LtI.up (h : LtI W wr wb b lb g cap n v rbs r i ip st at_ nb qv ql G c m p t q pa T L N) {i' ip' : Nat} (hi : i ≤ i') (hip : ip ≤ ip') : LtI W wr wb b lb g cap n v rbs r i' ip' st at_ nb qv ql G c m p t q pa T L N :=
  ⟨h.ln, h.ro, h.sum, h.num, fun k => Nat.le_trans (h.pn k) hip, by have := h.tm; omega, h.t0, h.high, h.steps, h.len⟩
/-- What is known of a putting under way. -/
theorem LtI.way (h : LtI W wr wb b lb g cap n v rbs r i ip st at_ nb qv ql G c m p t q pa T L N) {k pk : Nat} (hk : k < n) (hnb : nb k = some pk) :
    (G k).pu = true ∧ ActAt wr (rbs k) pk (pa k) ∧ PushK (G k) (p k) (t k) (pa k) ∧ lb < pk ∧ p k + 1 ≤ ip ∧ 1 ≤ (pa k).stage ∧ (pa k).stage ≤ 4 := by
  rcases h.ln.push.each k hk with ⟨e, _⟩ | ⟨x, e, e2, e3, e4, e5⟩
  · rw [e] at hnb; cases hnb
  · rw [e] at hnb
    injection hnb with hnb
    subst hnb
    have h1 := h.pn k
    rw [e] at h1
    exact ⟨e2, e3, e4, e5, h1, e4.2.1, e4.2.2.1⟩
theorem LtI.pstep (h : LtI W wr wb b lb g cap n v rbs r i ip st at_ nb qv ql G c m p t q pa T L N) {k pk : Nat} (hk : k < n) (hnb : nb k = some pk) (hip : ip ≤ 10000) (hi : i ≤ 10000) :
    Calls Try.prog 28 #[.pointer (some ⟨pk, 0, none⟩)] wr fun e w' => ∃ G' m' a' p' q', e = .returned (.bool (decide (a'.stage = 0))) ∧ WAt w' wb W.heap.size b lb g cap n v rbs G' c T.isSome ∧ ActAt w' (rbs k) pk a' ∧ RgsQ n G' m' p' t q' ∧ AliveP n k G G' m m' p p' t ∧ Tch (RingD W.heap.size (rbs k) pk) wr w' ∧
      ((a'.stage ≠ 0 ∧ PushK (G' k) (p' k) (t k) a' ∧ (G' k).pu = true ∧ p' = p ∧ q' = q ∧ a'.num = (pa k).num) ∨ (a'.stage = 0 ∧ a'.ok = true ∧ (G' k).pu = false ∧ q' = upd q k (q k ++ [(pa k).num]) ∧ p' = upd p k (p k + 1)) ∨ (a'.stage = 0 ∧ a'.ok = false ∧ (G' k).pu = false ∧ p' = p ∧ q' = q)) ∧ (a'.stage = 0 ∨ a'.stage = (pa k).stage + 1) := by
  obtain ⟨h1, h2, h3, h4, h5, _⟩ := h.way hk hnb
  have htm := h.tm
  refine (pl_step h.ln.at_ h.ln.que hk h2 h3 h4 (by omega) (by omega)).mono ?_
  rintro e w' ⟨G', m', a', p', q', rfl, x1, x2, x3, x4, x5, x6, x7⟩
  rw [h1] at x6
  exact ⟨G', m', a', p', q', rfl, x1, x2, x3, x4, x5, x6, x7⟩
/-- The store behind a putting that is over, when all turns are. -/
theorem RoL.one {w : World} (h : RoL w r n at_ nb qv ql) (k : Nat) : RoL (w.setCell ⟨r + 1, k, none⟩ (.pointer none)) r n at_ (upd nb k none) qv ql ∧ Tch (RoD r n qv) w (w.setCell ⟨r + 1, k, none⟩ (.pointer none)) :=
  ⟨h.setNow k none, (Tch.refl (RoD r n qv) w).setCell (p := ⟨r + 1, k, none⟩) (.inl ⟨by show r ≤ r + 1; omega, by show r + 1 < r + 4; omega⟩) _⟩
/-- A putting is over, in vain; its list's place stays. -/
theorem LtI.endVain (h : LtI W wr wb b lb g cap n v rbs r i ip st at_ nb qv ql G c m p t q pa T L N) {k pk : Nat} (hk : k < n) (hnb : nb k = some pk) {w' : World} {G' : Nat → RgS} {m' : MemS} {a' : AcS} {p' : Nat → Nat} {q' : Nat → List Int} (hw : WAt w' wb W.heap.size b lb g cap n v rbs G' c T.isSome) (ha : ActAt w' (rbs k) pk a') (hq : RgsQ n G' m' p' t q') (hal : AliveP n k G G' m m' p p' t) (ht : Tch (RingD W.heap.size (rbs k) pk) wr w')
    (hpu : (G' k).pu = false) (hp : p' = p) (hqq : q' = q) :
    LtI W (w'.setCell ⟨r + 1, k, none⟩ (.pointer none)) wb b lb g cap n v rbs r (i + 1) ip st at_ (upd nb k none) qv ql G' c m' p' t q' (upd pa k a') T L N := by
  have hl := h.ln.puts hk hnb hw ha hq hal ht (nb' := upd nb k none) (.inr ⟨rfl, hpu⟩)
  have hro := h.ro.tch ht (fun y hy => h.pu_far hk hnb hy)
  obtain ⟨hr2, ht2⟩ := hro.one k
  have hh := h.high
  have hln := hl.far ht2 (fun y hy => by have := hro.ge hy; omega) (fun y M f hy => hro.apart hy (by decide) (by decide) (by decide) (by decide)) (fun y M f hy => hro.apart hy (by decide) (by decide) (by decide) (by decide))
  refine ⟨hln, hr2, fun j hj => by rw [hqq]; exact h.sum j hj, fun j x hj e => ?_, fun j => ?_, by have := h.tm; have := hal.tm; omega, by have := h.t0; have := hal.tm; omega, hh, h.steps, fun j hj => by rw [hp]; exact h.len j hj⟩
  · by_cases f : j = k
    · rw [f, upd_same] at e; cases e
    · rw [upd_other _ f] at e
      rw [upd_other _ f]
      exact h.num j x hj e
  · have h1 := h.pn j
    rw [hp]
    by_cases f : j = k
    · subst f
      rw [upd_same]
      simp
      omega
    · rw [upd_other _ f]; exact h1
/-- .. did put. -/
theorem LtI.endDid (h : LtI W wr wb b lb g cap n v rbs r i ip st at_ nb qv ql G c m p t q pa T L N) {k pk : Nat} (hk : k < n) (hnb : nb k = some pk) {w' : World} {G' : Nat → RgS} {m' : MemS} {a' : AcS} {p' : Nat → Nat} {q' : Nat → List Int} (hw : WAt w' wb W.heap.size b lb g cap n v rbs G' c T.isSome) (ha : ActAt w' (rbs k) pk a') (hq : RgsQ n G' m' p' t q') (hal : AliveP n k G G' m m' p p' t) (ht : Tch (RingD W.heap.size (rbs k) pk) wr w')
    (hpu : (G' k).pu = false) (hp : p' = upd p k (p k + 1)) (hqq : q' = upd q k (q k ++ [(pa k).num])) {wz : World} {v' : Value} (hr : RoL wz r n at_ nb (upd qv k v') (upd ql k (ql k ++ [L k (at_ k)]))) (htz : Tch (RoD r n qv) w' wz) :
    LtI W (wz.setCell ⟨r + 1, k, none⟩ (.pointer none)) wb b lb g cap n v rbs r (i + 1) ip st at_ (upd nb k none) (upd qv k v') (upd ql k (ql k ++ [L k (at_ k)])) G' c m' p' t q' (upd pa k a') T L N := by
  have hl := h.ln.puts hk hnb hw ha hq hal ht (nb' := upd nb k none) (.inr ⟨rfl, hpu⟩)
  have hro := h.ro.tch ht (fun y hy => h.pu_far hk hnb hy)
  have hh := h.high
  have hlz := hl.far htz (fun y hy => by have := hro.ge hy; omega) (fun y M f hy => hro.apart hy (by decide) (by decide) (by decide) (by decide)) (fun y M f hy => hro.apart hy (by decide) (by decide) (by decide) (by decide))
  obtain ⟨hr2, ht2⟩ := hr.one k
  have hln := hlz.far ht2 (fun y hy => by have := hr.ge hy; omega) (fun y M f hy => hr.apart hy (by decide) (by decide) (by decide) (by decide)) (fun y M f hy => hr.apart hy (by decide) (by decide) (by decide) (by decide))
  refine ⟨hln, hr2, fun j hj => ?_, fun j x hj e => ?_, fun j => ?_, by have := h.tm; have := hal.tm; omega, by have := h.t0; have := hal.tm; omega, hh, h.steps, fun j hj => by
    have h1 := h.len j hj
    rw [hp]
    by_cases f : j = k
    · subst f; rw [upd_same, upd_same, List.length_append]; exact Nat.succ_le_succ h1
    · rw [upd_other _ f, upd_other _ f]; exact h1⟩
  · rw [hqq, upd_other (k := k) (i := n + j) _ (by omega)]
    by_cases f : j = k
    · subst f
      rw [upd_same, upd_same, h.sum j hj, (h.num j pk hj hnb).1, List.append_assoc]
    · rw [upd_other _ f, upd_other _ f]
      exact h.sum j hj
  · by_cases f : j = k
    · rw [f, upd_same] at e; cases e
    · rw [upd_other _ f] at e
      rw [upd_other _ f]
      exact h.num j x hj e
  · have h1 := h.pn j
    rw [hp]
    by_cases f : j = k
    · subst f
      rw [upd_same, upd_same]
      rw [hnb] at h1
      simp at h1 ⊢
      omega
    · rw [upd_other _ f, upd_other _ f]; exact h1
theorem LtI.pbel (h : LtI W wr wb b lb g cap n v rbs r i ip st at_ nb qv ql G c m p t q pa T L N) {k pk : Nat} (hk : k < n) (hnb : nb k = some pk) {w' : World} (ht : Tch (RingD W.heap.size (rbs k) pk) wr w') : Below W.heap.size W w' := by
  obtain ⟨_, ha, _, hpk, _⟩ := h.way hk hnb
  refine ht.below h.ln.bel (fun x hx => ?_) h.ln.bel.size
  rcases hx with e | e | e
  · exact e.1
  · exact (h.ln.lows (.inr (.inl ⟨k, hk, e⟩))).1
  · have := (h.ln.lows (x := lb) (.inr (.inr rfl))).1; omega
theorem U64Rows.fn2 {w : World} {v : Value} (h : U64Rows w v) : ∃ (A : Option Addr) (n cap : Nat) (L : Nat → Nat → Int) (N : Nat → Nat), v = .slice A n cap ∧ n ≤ cap ∧ cap ≤ maxLen ∧ (∀ i, i < n → ∃ b off u, A = some ⟨b, off, none⟩ ∧ b < w.heap.size ∧ w.cell? ⟨b, off + i, none⟩ = some u ∧ U64Row w u (L i) (N i)) ∧ ∀ i, n ≤ i → N i = 0 := by
  obtain ⟨A, n, cap, L, N, e, h1, h2, h3⟩ := h.fn
  refine ⟨A, n, cap, L, fun i => if i < n then N i else 0, e, h1, h2, fun i hi => ?_, fun i hi => if_neg (by omega)⟩
  simp only [if_pos hi]
  exact h3 i hi
/-- Where one of the rows that hold what was put stands, and how it grows. -/
theorem LtI.grows (h : LtI W wr wb b lb g cap n v rbs r i ip st at_ nb qv ql G c m p t q pa T L N) {k pk : Nat} (hk : k < n) (hnb : nb k = some pk) {w' : World} (ht : Tch (RingD W.heap.size (rbs k) pk) wr w') : RoL w' r n at_ nb qv ql :=
  h.ro.tch ht (fun y hy => h.pu_far hk hnb hy)
end
end Go.Proofs.Ytpojnknhmpmhjaa
