/-
  Rows beside a lane: where each list stands, who is at it, what was put and got. No statement is proved here.
-/
import Derived.Test.YtpojnknhmpmhjaaLnN
import Derived.Test.YtpojnknhmpmhjaaJbB
set_option linter.unusedVariables false
namespace Go.Proofs.Ytpojnknhmpmhjaa
open Go.RowKit

def actV (nb : Nat → Option Nat) (i : Nat) : Value := .pointer ((nb i).map fun x => ⟨x, 0, none⟩)
/-- Four rows, made one behind the other from block r on, and the rows of numbers of the last two: n of what was put, n of what was got. -/
structure RoL (wr : World) (r n : Nat) (at_ : Nat → Nat) (nb : Nat → Option Nat) (qv : Nat → Value) (ql : Nat → List Int) : Prop where
  ats : wr.rowIs r 3 n (fun i => .int .i64 (at_ i : Nat))
  nows : wr.rowIs (r + 1) 36 n (actV nb)
  pc : wr.rowIs (r + 2) 23 n qv
  gc : wr.rowIs (r + 3) 23 n (fun i => qv (n + i))
  own : ∀ i, i < 2 * n → wr.ownsRow (r + 4) 22 1 (qv i) (ql i).length (kv .u64 (ql i))
  dis : ∀ i j k, i < 2 * n → j < 2 * n → i ≠ j → (qv i).ownBlock = some k → (qv j).ownBlock ≠ some k
/-- What of it a store, or a row that grows, touches. -/
def RoD (r n : Nat) (qv : Nat → Value) (y : Nat) : Prop := (r ≤ y ∧ y < r + 4) ∨ ∃ i, i < 2 * n ∧ (qv i).ownBlock = some y
section
variable {wr w' : World} {r n : Nat} {at_ : Nat → Nat} {nb : Nat → Option Nat} {qv : Nat → Value} {ql : Nat → List Int}
theorem RoL.ge (h : RoL wr r n at_ nb qv ql) {y : Nat} (hy : RoD r n qv y) : r ≤ y := by
  rcases hy with e | ⟨i, hi, e⟩
  · omega
  · have := ((h.own i hi).lt y e).1; omega
theorem RoL.tch (h : RoL wr r n at_ nb qv ql) {D : Nat → Prop} (ht : Tch D wr w') (hd : ∀ y, RoD r n qv y → ¬ D y) : RoL w' r n at_ nb qv ql :=
  ⟨rowIs_tch h.ats ht (hd _ (.inl ⟨by omega, by omega⟩)), rowIs_tch h.nows ht (hd _ (.inl ⟨by omega, by omega⟩)), rowIs_tch h.pc ht (hd _ (.inl ⟨by omega, by omega⟩)), rowIs_tch h.gc ht (hd _ (.inl ⟨by omega, by omega⟩)),
    fun i hi => own_tch (h.own i hi) ht (fun k hk => hd k (.inr ⟨i, hi, hk⟩)), h.dis⟩
theorem RoL.below (h : RoL wr r n at_ nb qv ql) (hb : Below wr.heap.size wr w') : RoL w' r n at_ nb qv ql := h.tch (D := fun _ => False) (Tch.of_below hb) (fun _ _ h => h)
/-- An act's block isn't among them. -/
theorem RoL.apart (h : RoL wr r n at_ nb qv ql) {ab M : Nat} {T : TypeId} {f : Nat → Value} (ha : wr.rowIs ab T M f) (h1 : T ≠ 3) (h2 : T ≠ 36) (h3 : T ≠ 23) (h4 : T ≠ 22) : ¬ RoD r n qv ab := by
  obtain ⟨c1, e1, _⟩ := ha
  have key : ∀ {x : Nat} {T' : TypeId} {M' : Nat} {f' : Nat → Value}, wr.rowIs x T' M' f' → T ≠ T' → ab ≠ x := fun hx hne e => by
    subst e
    obtain ⟨c2, e2, _⟩ := hx
    rw [e1] at e2
    injection e2 with e2
    injection e2 with e3 e4
    exact hne e4
  rintro (⟨e, e'⟩ | ⟨i, hi, e⟩)
  · have k1 := key h.ats h1
    have k2 := key h.nows h2
    have k3 := key h.pc h3
    have k4 := key h.gc h3
    omega
  · rcases (h.own i hi).2 with ⟨e2, _⟩ | ⟨g, cap, cur, hv, hb, hg, _⟩
    · rw [e2] at e; cases e
    · rw [hv] at e
      injection e with e
      have e : g = ab := e
      subst e
      rw [e1] at hg
      injection hg with hg
      injection hg with e3 e4
      exact h4 e4
theorem RoL.setAt (h : RoL wr r n at_ nb qv ql) (k x : Nat) : RoL (wr.setCell ⟨r, k, none⟩ (.int .i64 (x : Nat))) r n (upd at_ k x) nb qv ql := by
  refine ⟨(h.ats.set k _).congr fun i hi => ?_, h.nows.setOther (by show r + 1 ≠ r; omega) _, h.pc.setOther (by show r + 2 ≠ r; omega) _, h.gc.setOther (by show r + 3 ≠ r; omega) _, fun i hi => own_setCell (h.own i hi) (by show r < r + 4; omega) _, h.dis⟩
  by_cases e : i = k
  · rw [e, upd_same, if_pos rfl]
  · rw [upd_other _ e, if_neg e]
theorem RoL.setNow (h : RoL wr r n at_ nb qv ql) (k : Nat) (x : Option Nat) : RoL (wr.setCell ⟨r + 1, k, none⟩ (.pointer (x.map fun x => ⟨x, 0, none⟩))) r n at_ (upd nb k x) qv ql := by
  refine ⟨h.ats.setOther (by show r ≠ r + 1; omega) _, (h.nows.set k _).congr fun i hi => ?_, h.pc.setOther (by show r + 2 ≠ r + 1; omega) _, h.gc.setOther (by show r + 3 ≠ r + 1; omega) _, fun i hi => own_setCell (h.own i hi) (by show r + 1 < r + 4; omega) _, h.dis⟩
  unfold actV
  by_cases e : i = k
  · rw [e, upd_same, if_pos rfl]
  · rw [upd_other _ e, if_neg e]
/-- Row k grows and is stored. -/
theorem RoL.app (h : RoL wr r n at_ nb qv ql) {k : Nat} (hk : k < 2 * n) {w9 : World} {o : Obj} {v' : Value} {l' : List Int} (how : w9.ownsRow (r + 4) 22 1 v' l'.length (kv .u64 l')) (hg : (wr.alloc o).grownBy w9 (qv k).ownBlock) (hl : v'.ownBlock = (qv k).ownBlock ∨ v'.ownBlock = some (wr.alloc o).heap.size) {x y : Nat} (hxy : (k < n ∧ x = r + 2 ∧ y = k) ∨ (n ≤ k ∧ x = r + 3 ∧ y = k - n)) :
    RoL (w9.setCell ⟨x, y, none⟩ v') r n at_ nb (upd qv k v') (upd ql k l') ∧ Tch (RoD r n qv) wr (w9.setCell ⟨x, y, none⟩ v') := by
  have hT : Tch (fun z => (qv k).ownBlock = some z) wr w9 := (Tch.of_below ((Below.refl _ _).alloc (Nat.le_refl _) o)).trans ((Tch.grown hg fun j hj => hj).mono fun z _ hz => hz)
  have hrb : ∀ z, (qv k).ownBlock = some z → r + 4 ≤ z ∧ z < wr.heap.size := fun z hz => (h.own k hk).lt z hz
  have hlow : ∀ z, z < r + 4 → ¬ (qv k).ownBlock = some z := fun z hz e => by have := (hrb z e).1; omega
  have hx : r + 2 ≤ x ∧ x < r + 4 := by omega
  have hset : ∀ z, z ≠ x → (w9.setCell ⟨x, y, none⟩ v').heap[z]? = w9.heap[z]? := fun z hz => Below.heap_setCell _ _ _ _ (by show z ≠ x; exact hz)
  have hnew : ∀ i z, i < 2 * n → i ≠ k → (qv i).ownBlock = some z → v'.ownBlock ≠ some z := fun i z hi hik e1 e2 => by
    rcases hl with e | e
    · rw [e] at e2; exact h.dis i k z hi hk hik e1 e2
    · rw [e] at e2
      have h1 := ((h.own i hi).lt z e1).2
      injection e2 with e2
      have e3 := World.size_alloc wr o
      omega
  refine ⟨⟨?_, ?_, ?_, ?_, fun i hi => ?_, fun i j z hi hj hij => ?_⟩, (hT.mono (E := RoD r n qv) fun z _ e => .inr ⟨k, hk, e⟩).setCell (p := ⟨x, y, none⟩) (.inl ⟨by show r ≤ x; omega, hx.2⟩) _⟩
  · exact (rowIs_tch h.ats hT (hlow r (by omega))).of_block (hset r (by omega))
  · exact (rowIs_tch h.nows hT (hlow (r + 1) (by omega))).of_block (hset (r + 1) (by omega))
  · have h1 := rowIs_tch h.pc hT (hlow (r + 2) (by omega))
    rcases hxy with ⟨e1, e2, e3⟩ | ⟨e1, e2, e3⟩
    · subst e2 e3
      exact (h1.set y v').congr fun i hi => (by unfold upd; rfl)
    · refine (h1.of_block (hset (r + 2) (by omega))).congr fun i hi => (by rw [upd_other _ (by omega)])
  · have h1 := rowIs_tch h.gc hT (hlow (r + 3) (by omega))
    rcases hxy with ⟨e1, e2, e3⟩ | ⟨e1, e2, e3⟩
    · refine (h1.of_block (hset (r + 3) (by omega))).congr fun i hi => (by rw [upd_other _ (by omega)])
    · subst e2 e3
      refine (h1.set (k - n) v').congr fun i hi => ?_
      by_cases e : i = k - n
      · rw [if_pos e, e, show n + (k - n) = k by omega, upd_same]
      · rw [if_neg e, upd_other _ (by omega)]
  · by_cases e : i = k
    · subst e
      rw [upd_same, upd_same]
      exact own_setCell how (by show x < r + 4; omega) _
    · rw [upd_other _ e, upd_other _ e]
      exact own_setCell (own_tch (h.own i hi) hT (fun z hz => h.dis i k z hi hk e hz)) (by show x < r + 4; omega) _
  · by_cases e1 : i = k <;> by_cases e2 : j = k
    · omega
    · rw [e1, upd_same, upd_other _ e2]
      exact fun a b => hnew j z hj e2 b a
    · rw [e2, upd_same, upd_other _ e1]
      exact hnew i z hi e1
    · rw [upd_other _ e1, upd_other _ e2]
      exact h.dis i j z hi hj hij
end
/-- What is far from the lane leaves it as it is. -/
theorem LnS.far {W wr w' : World} {wb b lb g cap n : Nat} {v : Value} {rbs : Nat → Nat} {G : Nat → RgS} {c : Nat} {m : MemS} {p t : Nat → Nat} {q : Nat → List Int} {nb : Nat → Option Nat} {pa : Nat → AcS} {T : Option TkN} (h : LnS W wr wb b lb g cap n v rbs G c m p t q nb pa T) {D : Nat → Prop} (ht : Tch D wr w') (hD : ∀ x, D x → lb < x)
    (h1 : ∀ x M f, wr.rowIs x 86 M f → ¬ D x) (h2 : ∀ x M f, wr.rowIs x 92 M f → ¬ D x) : LnS W w' wb b lb g cap n v rbs G c m p t q nb pa T := by
  have hw := h.at_.high ht hD
  refine ⟨hw, h.que, ⟨fun k hk => ?_, h.push.dis⟩, h.idle, fun x hx => ?_, ht.below h.bel (fun x hx => ?_) h.bel.size⟩
  · rcases h.push.each k hk with e | ⟨x, e1, e2, e3, e4, e5⟩
    · exact .inl e
    · exact .inr ⟨x, e1, e2, e3.tch ht (h1 _ _ _ e3), e4, e5⟩
  · obtain ⟨hb1, hb2⟩ := h.busy x hx
    have hw1 : WAt w' wb W.heap.size b lb g cap n v rbs G c true := by rw [hx] at hw; exact hw
    exact ⟨⟨hw1, hb1.act.tch ht (h2 _ _ _ hb1.act), hb1.ract.tch ht (h1 _ _ _ hb1.ract), hb1.que, hb1.know, hb1.jn, hb1.po, hb1.lab, hb1.lpb, hb1.ne⟩, hb2⟩
  · have := hD x hx
    have := (h.lows (x := lb) (.inr (.inr rfl))).1
    omega
end Go.Proofs.Ytpojnknhmpmhjaa
