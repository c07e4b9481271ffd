/-
  A ring and its acts in memory; what of the world stays when one of them goes on. No statement is proved here.
-/
import Derived.Test.YtpojnknhmpmhjaaPlainRg
import Derived.Test.YtpojnknhmpmhjaaMemB
set_option linter.unusedVariables false
namespace Go.Proofs.Ytpojnknhmpmhjaa
open Go.RowKit

/-- But for the blocks of D, and new ones, nothing was turned. -/
structure Tch (D : Nat → Prop) (w w' : World) : Prop where
  os : w'.os = w.os
  tape : w'.tape = w.tape
  output : w'.output = w.output
  size : w.heap.size ≤ w'.heap.size
  block : ∀ k, k < w.heap.size → ¬ D k → w'.heap[k]? = w.heap[k]?
theorem Tch.refl (D : Nat → Prop) (w : World) : Tch D w w := ⟨rfl, rfl, rfl, Nat.le_refl _, fun _ _ _ => rfl⟩
theorem Tch.trans {D : Nat → Prop} {a b c : World} (h : Tch D a b) (k : Tch D b c) : Tch D a c :=
  ⟨k.os.trans h.os, k.tape.trans h.tape, k.output.trans h.output, Nat.le_trans h.size k.size, fun i hi hn => (k.block i (Nat.lt_of_lt_of_le hi h.size) hn).trans (h.block i hi hn)⟩
theorem Tch.mono {D E : Nat → Prop} {a b : World} (h : Tch D a b) (hd : ∀ k, k < a.heap.size → D k → E k) : Tch E a b :=
  ⟨h.os, h.tape, h.output, h.size, fun i hi hn => h.block i hi fun hk => hn (hd i hi hk)⟩
theorem Tch.of_below {D : Nat → Prop} {w w' : World} (h : Below w.heap.size w w') : Tch D w w' := ⟨h.os, h.tape, h.output, h.size, fun k hk _ => h.block k hk⟩
theorem Tch.of_touch {D : Nat → Prop} {lo : Nat} {w w' : World} (h : Touch lo w w') (hd : ∀ k, lo ≤ k → k < lo + 3 → D k) : Tch D w w' :=
  ⟨h.os, h.tape, h.output, h.size, fun k hk hn => h.block k hk (by
    rcases Nat.lt_or_ge k lo with h1 | h1
    · exact .inl h1
    · rcases Nat.lt_or_ge k (lo + 3) with h2 | h2
      · exact absurd (hd k h1 h2) hn
      · exact .inr h2)⟩
theorem Tch.setCell {D : Nat → Prop} {a w : World} (h : Tch D a w) {p : Addr} (hp : D p.block) (u : Value) : Tch D a (w.setCell p u) :=
  h.trans ⟨rfl, rfl, rfl, by simp [World.setCell], fun k hk hn => Below.heap_setCell _ _ _ _ (by intro e; exact hn (by rw [e]; exact hp))⟩
theorem Tch.alloc {D : Nat → Prop} {a w : World} (h : Tch D a w) (o : Obj) : Tch D a (w.alloc o) := h.trans (Tch.of_below ((Below.refl _ _).alloc (Nat.le_refl _) o))
theorem Tch.drewN {D : Nat → Prop} {a w : World} (h : Tch D a w) (n : Nat) : Tch D a (w.drewN n) := h.trans (Tch.of_below (below_drewN (Below.refl _ _) n))
theorem Tch.below {D : Nat → Prop} {B : Nat} {W w w' : World} (h : Tch D w w') (hb : Below B W w) (hB : ∀ k, D k → B ≤ k) (hB2 : B ≤ w.heap.size) : Below B W w' :=
  hb.trans ⟨h.os, h.tape, h.output, h.size, fun k hk => h.block k (by omega) (fun hd => by have := hB k hd; omega)⟩
theorem Tch.cell {D : Nat → Prop} {w w' : World} (h : Tch D w w') {p : Addr} (hp : p.block < w.heap.size) (hd : ¬ D p.block) : w'.cell? p = w.cell? p :=
  World.cell?_of_block (w := w) (h.block p.block hp hd)
theorem rowIs_tch {D : Nat → Prop} {w w' : World} {g M : Nat} {T : TypeId} {f : Nat → Value} (h : w.rowIs g T M f) (ht : Tch D w w') (hd : ¬ D g) : w'.rowIs g T M f := h.of_block (ht.block g h.lt hd)
theorem MemAt.tch {D : Nat → Prop} {w w' : World} {T : TypeId} {lo b : Nat} {s : MemS} (h : MemAt w T lo b s) (ht : Tch D w w') (hd : ∀ k, lo ≤ k → k < lo + 3 → ¬ D k) : MemAt w' T lo b s := by
  obtain ⟨bc, bl, h⟩ := h
  exact ⟨bc, bl, h.of_blocks fun k h1 h2 hk => ht.block k hk (hd k h1 h2)⟩
theorem own_tch {D : Nat → Prop} {w w' : World} {B size n : Nat} {e : TypeId} {v : Value} {xs : List Value} (h : w.ownsRow B e size v n xs) (ht : Tch D w w') (hd : ∀ k, v.ownBlock = some k → ¬ D k) : w'.ownsRow B e size v n xs := by
  obtain ⟨h1, h2⟩ := h
  refine ⟨h1, ?_⟩
  rcases h2 with h2 | ⟨g, cap, cur, hv, hb, hg, rest⟩
  · exact .inl h2
  · have hlt : g < w.heap.size := by
      rcases Nat.lt_or_ge g w.heap.size with h | h
      · exact h
      · rw [Array.getElem?_eq_none h] at hg; simp at hg
    exact .inr ⟨g, cap, cur, hv, hb, (ht.block g hlt (hd g (by rw [hv]; rfl))).trans hg, rest⟩

/-- The ring's own cells. -/
def ringF (b : Nat) (g : RgS) : Nat → Value
  | 0 => .pointer (some ⟨b, 0, none⟩)
  | 1 => .int .i64 (g.ba : Nat)
  | 2 => .int .i64 (g.sz : Nat)
  | 3 => .int .u64 g.st
  | 4 => .bool g.pu
  | _ => .bool g.po
/-- The act's. -/
def actF (rb : Nat) (a : AcS) : Nat → Value
  | 0 => .pointer (some ⟨rb, 0, none⟩)
  | 1 => .bool a.puts
  | 2 => .int .i64 (a.stage : Nat)
  | 3 => .int .u64 a.cnt
  | 4 => .int .u64 a.num
  | 5 => .bool a.ok
  | _ => .int .i64 a.mark
structure RingAt (w : World) (lo b rb : Nat) (g : RgS) : Prop where
  mem : MemAt w 81 lo b g.m
  row : w.rowIs rb 84 6 (ringF b g)
  out : lo + 3 ≤ rb
  fits : Fits g
def ActAt (w : World) (rb ab : Nat) (a : AcS) : Prop := w.rowIs ab 86 7 (actF rb a)
def RingD (lo rb ab : Nat) (k : Nat) : Prop := (lo ≤ k ∧ k < lo + 3) ∨ k = rb ∨ k = ab
theorem RingAt.lt {w : World} {lo b rb : Nat} {g : RgS} (h : RingAt w lo b rb g) : rb < w.heap.size := h.row.lt
theorem ActAt.lt {w : World} {rb ab : Nat} {a : AcS} (h : ActAt w rb ab a) : ab < w.heap.size := World.rowIs.lt h
theorem RingAt.tch {D : Nat → Prop} {w w' : World} {lo b rb : Nat} {g : RgS} (h : RingAt w lo b rb g) (ht : Tch D w w') (hd : ∀ k, lo ≤ k → k < lo + 3 → ¬ D k) (hr : ¬ D rb) : RingAt w' lo b rb g :=
  ⟨h.mem.tch ht hd, rowIs_tch h.row ht hr, h.out, h.fits⟩
theorem ActAt.tch {D : Nat → Prop} {w w' : World} {rb ab : Nat} {a : AcS} (h : ActAt w rb ab a) (ht : Tch D w w') (hd : ¬ D ab) : ActAt w' rb ab a := rowIs_tch h ht hd
theorem RingAt.below {w w' : World} {lo b rb : Nat} {g : RgS} (h : RingAt w lo b rb g) (hb : Below w.heap.size w w') : RingAt w' lo b rb g :=
  ⟨h.mem.below hb, h.row.of_block (hb.block _ h.lt), h.out, h.fits⟩
theorem ActAt.below {w w' : World} {rb ab : Nat} {a : AcS} (h : ActAt w rb ab a) (hb : Below w.heap.size w w') : ActAt w' rb ab a := World.rowIs.of_block h (hb.block _ h.lt)
theorem RingAt.at_ {w : World} {lo b rb : Nat} {g : RgS} (h : RingAt w lo b rb g) :
    w.cell? ⟨rb, 0, none⟩ = some (.pointer (some ⟨b, 0, none⟩)) ∧ w.cell? ⟨rb, 1, none⟩ = some (.int .i64 (g.ba : Nat)) ∧ w.cell? ⟨rb, 2, none⟩ = some (.int .i64 (g.sz : Nat)) ∧ w.cell? ⟨rb, 3, none⟩ = some (.int .u64 g.st) ∧ w.cell? ⟨rb, 4, none⟩ = some (.bool g.pu) ∧ w.cell? ⟨rb, 5, none⟩ = some (.bool g.po) ∧ (∀ o, w.frozen? ⟨rb, o, none⟩ = false) :=
  ⟨h.row.cell (by omega), h.row.cell (by omega), h.row.cell (by omega), h.row.cell (by omega), h.row.cell (by omega), h.row.cell (by omega), h.row.frozen⟩
theorem ActAt.at_ {w : World} {rb ab : Nat} {a : AcS} (h : ActAt w rb ab a) :
    w.cell? ⟨ab, 0, none⟩ = some (.pointer (some ⟨rb, 0, none⟩)) ∧ w.cell? ⟨ab, 1, none⟩ = some (.bool a.puts) ∧ w.cell? ⟨ab, 2, none⟩ = some (.int .i64 (a.stage : Nat)) ∧ w.cell? ⟨ab, 3, none⟩ = some (.int .u64 a.cnt) ∧ w.cell? ⟨ab, 4, none⟩ = some (.int .u64 a.num) ∧ w.cell? ⟨ab, 5, none⟩ = some (.bool a.ok) ∧ w.cell? ⟨ab, 6, none⟩ = some (.int .i64 a.mark) ∧ (∀ o, w.frozen? ⟨ab, o, none⟩ = false) :=
  ⟨World.rowIs.cell h (by omega), World.rowIs.cell h (by omega), World.rowIs.cell h (by omega), World.rowIs.cell h (by omega), World.rowIs.cell h (by omega), World.rowIs.cell h (by omega), World.rowIs.cell h (by omega), World.rowIs.frozen h⟩
/-- A step of the memory, and what it tells. -/
theorem hasC_k {s : MemS} {k : Nat} (hk : k < s.C) : hasC s (k : Int) = true := hasC_iff.2 ⟨by omega, by omega⟩
theorem loadS_k {s : MemS} {k : Nat} (hk : k < s.C) : loadS s (k : Int) = tickS s := by unfold loadS; rw [if_pos (hasC_k hk)]
theorem peekS_k {s : MemS} {k : Nat} (hk : k < s.C) : peekS s (k : Int) = s.c k := by unfold peekS; rw [if_pos (hasC_k hk), Int.toNat_natCast]
theorem storeS_k {s : MemS} {k : Nat} (hk : k < s.C) (v : Int) : storeS s (k : Int) v = putC (tickS s) k v := by unfold storeS; rw [if_pos (hasC_k hk), Int.toNat_natCast]
end Go.Proofs.Ytpojnknhmpmhjaa
