/-
  A row of rings of which one is missing: how it is made. No statement is proved here.
-/
import Derived.Test.YtbnmgkedcpfdeaaLnJ
set_option linter.unusedVariables false
namespace Go.Proofs.Ytbnmgkedcpfdeaa
open Go.RowKit

/-- So many rings of two numbers are made, but for one place. -/
structure Holed (W wr : World) (lo b k : Nat) (hole : Int) (v : Value) (f : Nat → Option Addr) (m : MemS) : Prop where
  own : wr.ownsRow (lo + 3) 28 1 v k (ptv f k)
  mem : MemAt wr 81 lo b m
  tm : m.t = 2 * (k : Int)
  C : m.C = 280
  all : ∀ i : Nat, i < k → ((i : Int) = hole ∧ f i = none) ∨ ((i : Int) ≠ hole ∧ ∃ rb, f i = some ⟨rb, 0, none⟩ ∧ lo + 3 ≤ rb ∧ Sized wr rb 2 ∧ v.ownBlock ≠ some rb)
  low : lo + 3 ≤ wr.heap.size
  bel : Below W.heap.size W wr
  lo0 : W.heap.size ≤ lo
theorem Holed.next {W wr w2 w3 : World} {lo b k rb : Nat} {hole : Int} {v v' : Value} {f : Nat → Option Addr} {m : MemS} {x : Option Addr} (h : Holed W wr lo b k hole v f m) (hr : RingAt w2 lo b rb (newR m (4 * k) 2 0)) (hle : wr.heap.size ≤ rb) (ht : Touch lo wr w2) {o : Obj}
    (hx : ((k : Int) = hole ∧ x = none) ∨ ((k : Int) ≠ hole ∧ x = some ⟨rb, 0, none⟩)) (how : w3.ownsRow (lo + 3) 28 1 v' (k + 1) (ptv f k ++ [.pointer x])) (hg : (w2.alloc o).grownBy w3 v.ownBlock) (hl : v'.ownBlock = v.ownBlock ∨ v'.ownBlock = some (w2.alloc o).heap.size) :
    Holed W w3 lo b (k + 1) hole v' (upd f k x) (newM m (4 * k) 0) := by
  have hrlt : rb < w2.heap.size := hr.lt
  have hsz := ht.size
  have hlow := h.low
  have hvb : ∀ j, v.ownBlock = some j → lo + 3 ≤ j ∧ j < wr.heap.size := h.own.lt
  have hT : Tch (fun x => v.ownBlock = some x) w2 w3 := (Tch.of_below ((Below.refl _ _).alloc (Nat.le_refl _) o)).trans ((Tch.grown hg fun j hj => hj).mono fun x _ hx => hx)
  have hT2 : Tch (fun x => lo ≤ x ∧ x < lo + 3) wr w2 := Tch.of_touch ht fun k h1 h2 => ⟨h1, h2⟩
  refine ⟨?_, hr.mem.tch hT (fun x h1 h2 hd => by have := (hvb _ hd).1; omega), ?_, h.C, fun i hi => ?_, ?_, ?_, h.lo0⟩
  · rw [ptv_succ, ptv_congr (g := f) (fun i hi => upd_other _ (by omega) _), upd_same]
    exact how
  · show m.t + 1 + 1 = _
    rw [h.tm]; omega
  · have key : ∀ rb', lo + 3 ≤ rb' → rb' < w2.heap.size → v.ownBlock ≠ some rb' → v'.ownBlock ≠ some rb' := fun rb' h1 h2 h3 e => by
      rcases hl with hl | hl
      · exact h3 (hl ▸ e)
      · rw [hl] at e
        simp at e
        omega
    by_cases e : i = k
    · subst e
      rw [upd_same]
      rcases hx with ⟨e1, e2⟩ | ⟨e1, e2⟩
      · exact .inl ⟨e1, e2⟩
      · have hnb : v.ownBlock ≠ some rb := fun e => by have := (hvb _ e).2; omega
        exact .inr ⟨e1, rb, e2, by omega, (Sized.of_ring hr).tch hT hnb, key _ (by omega) hrlt hnb⟩
    · rw [upd_other _ e]
      rcases h.all i (by omega) with e1 | ⟨e1, rb', e2, e3, e4, e5⟩
      · exact .inl e1
      · exact .inr ⟨e1, rb', e2, e3, (e4.tch hT2 (by omega)).tch hT e5, key _ e3 (by have := e4.lt; omega) e5⟩
  · have := hT.size; omega
  · have h1 : Below W.heap.size W w2 := hT2.below h.bel (fun x hx => by have := h.lo0; omega) h.bel.size
    exact hT.below h1 (fun x hx => by have := (hvb _ hx).1; have := h.lo0; omega) h1.size
theorem Holed.asks {W wr : World} {lo b k : Nat} {hole : Int} {v : Value} {f : Nat → Option Addr} {m : MemS} (h : Holed W wr lo b k hole v f m) : Asks wr k f fun i => decide ((i : Int) = hole) :=
  asks_sized fun i hi => by
    rcases h.all i hi with ⟨e1, e2⟩ | ⟨e1, rb, e2, e3, e4, e5⟩
    · exact .inl ⟨e2, decide_eq_true e1⟩
    · exact .inr ⟨rb, 2, e2, e4, by omega, decide_eq_false e1⟩
/-- With no place missing, it is a row of rings. -/
theorem Holed.whole {W wr : World} {lo b k : Nat} {hole : Int} {v : Value} {f : Nat → Option Addr} {m : MemS} (h : Holed W wr lo b k hole v f m) (hh : hole < 0 ∨ (k : Int) ≤ hole) : ∃ rbs : Nat → Nat, ptv f k = ptv (rp rbs) k ∧ (∀ i, i < k → rbs i < wr.heap.size) ∧ Asks wr k (rp rbs) fun _ => false := by
  have key : ∀ i : Nat, i < k → ∃ rb, f i = some ⟨rb, 0, none⟩ ∧ Sized wr rb 2 := fun i hi => by
    rcases h.all i hi with ⟨e1, e2⟩ | ⟨e1, rb, e2, e3, e4, e5⟩
    · omega
    · exact ⟨rb, e2, e4⟩
  refine ⟨fun i => match f i with | some a => a.block | none => 0, ptv_congr fun i hi => ?_, fun i hi => ?_, asks_sized fun i hi => ?_⟩
  · obtain ⟨rb, e, _⟩ := key i hi
    unfold rp
    simp only [e]
  · obtain ⟨rb, e, hs⟩ := key i hi
    simp only [e]
    exact hs.lt
  · obtain ⟨rb, e, hs⟩ := key i hi
    refine .inr ⟨rb, 2, ?_, hs, by omega, rfl⟩
    unfold rp
    simp only [e]
end Go.Proofs.Ytbnmgkedcpfdeaa
