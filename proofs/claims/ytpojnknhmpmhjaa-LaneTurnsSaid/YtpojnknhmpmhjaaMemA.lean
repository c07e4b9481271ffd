/-
  Cells and locks that all share: the plain memory, and what of the world holds one. No statement is proved here.
-/
import Derived.Test.YtpojnknhmpmhjaaRow
set_option linter.unusedVariables false
namespace Go.Proofs.Ytpojnknhmpmhjaa
open Go.RowKit

/-- So many cells and locks, what each holds, whose each is, and how many steps there were. -/
structure MemS where
  C : Nat
  L : Nat
  c : Nat → Int
  h : Nat → Int
  t : Int
/-- The steps. -/
def hasC (s : MemS) (i : Int) : Bool := decide (0 ≤ i) && decide (i < s.C)
def hasL (s : MemS) (i : Int) : Bool := decide (0 ≤ i) && decide (i < s.L)
def peekS (s : MemS) (i : Int) : Int := if hasC s i = true then s.c i.toNat else 0
def holdS (s : MemS) (l : Int) : Int := if hasL s l = true then s.h l.toNat else -1
def tickS (s : MemS) : MemS := { s with t := s.t + 1 }
def loadS (s : MemS) (i : Int) : MemS := if hasC s i = true then tickS s else s
def putC (s : MemS) (k : Nat) (v : Int) : MemS := { s with c := fun j => if j = k then v else s.c j }
def putL (s : MemS) (k : Nat) (v : Int) : MemS := { s with h := fun j => if j = k then v else s.h j }
def storeS (s : MemS) (i v : Int) : MemS := if hasC s i = true then putC (tickS s) i.toNat v else s
def okWho (s : MemS) (l who : Int) : Bool := hasL s l && decide (0 ≤ who)
def takeB (s : MemS) (l who : Int) : Bool := okWho s l who && decide (s.h l.toNat = -1)
def takeS (s : MemS) (l who : Int) : MemS := if okWho s l who = true then (if s.h l.toNat = -1 then putL (tickS s) l.toNat who else tickS s) else s
def freeB (s : MemS) (l who : Int) : Bool := okWho s l who && decide (s.h l.toNat = who)
def freeS (s : MemS) (l who : Int) : MemS := if okWho s l who = true then (if s.h l.toNat = who then putL (tickS s) l.toNat (-1) else tickS s) else s
theorem hasC_iff {s : MemS} {i : Int} : hasC s i = true ↔ 0 ≤ i ∧ i < s.C := by simp [hasC]
theorem hasL_iff {s : MemS} {i : Int} : hasL s i = true ↔ 0 ≤ i ∧ i < s.L := by simp [hasL]
theorem okWho_iff {s : MemS} {l who : Int} : okWho s l who = true ↔ (0 ≤ l ∧ l < s.L) ∧ 0 ≤ who := by simp [okWho, hasL_iff]

/-- The struct's cells. -/
def memF (bc bl : Nat) (s : MemS) : Nat → Value
  | 0 => .slice (some ⟨bc, 0, none⟩) s.C s.C
  | 1 => .slice (some ⟨bl, 0, none⟩) s.L s.L
  | _ => .int .i64 s.t
/-- At block b lies such a memory; its blocks lie from lo on, three of them. -/
structure MemIn (w : World) (T : TypeId) (lo b bc bl : Nat) (s : MemS) : Prop where
  b1 : lo ≤ b
  b2 : b < lo + 3
  c1 : lo ≤ bc
  c2 : bc < lo + 3
  l1 : lo ≤ bl
  l2 : bl < lo + 3
  n1 : b ≠ bc
  n2 : b ≠ bl
  n3 : bc ≠ bl
  own : w.rowIs b T 3 (memF bc bl s)
  cells : w.rowIs bc 22 s.C (fun j => .int .u64 (s.c j))
  locks : w.rowIs bl 3 s.L (fun j => .int .i64 (s.h j))
  t0 : 0 ≤ s.t
  hh : ∀ l, -1 ≤ s.h l
  cb : s.C ≤ 1048576
  lb : s.L ≤ 128
def MemAt (w : World) (T : TypeId) (lo b : Nat) (s : MemS) : Prop := ∃ bc bl, MemIn w T lo b bc bl s
/-- But for three blocks from lo on, and new ones, nothing was turned. -/
structure Touch (lo : Nat) (w w' : World) : Prop where
  os : w'.os = w.os
  tape : w'.tape = w.tape
  output : w'.output = w.output
  size : w.heap.size ≤ w'.heap.size
  block : ∀ k, k < w.heap.size → (k < lo ∨ lo + 3 ≤ k) → w'.heap[k]? = w.heap[k]?
theorem Touch.refl (lo : Nat) (w : World) : Touch lo w w := ⟨rfl, rfl, rfl, Nat.le_refl _, fun _ _ _ => rfl⟩
theorem Touch.trans {lo : Nat} {a b c : World} (h : Touch lo a b) (k : Touch lo b c) : Touch lo a c :=
  ⟨k.os.trans h.os, k.tape.trans h.tape, k.output.trans h.output, Nat.le_trans h.size k.size, fun i hi hn => (k.block i (Nat.lt_of_lt_of_le hi h.size) hn).trans (h.block i hi hn)⟩
theorem Touch.of_below {lo : Nat} {w w' : World} (h : Below w.heap.size w w') : Touch lo w w' := ⟨h.os, h.tape, h.output, h.size, fun k hk _ => h.block k hk⟩
theorem Touch.setCell {lo : Nat} {a w : World} (h : Touch lo a w) {p : Addr} (h1 : lo ≤ p.block) (h2 : p.block < lo + 3) (u : Value) : Touch lo a (w.setCell p u) :=
  h.trans ⟨rfl, rfl, rfl, by simp [World.setCell], fun k hk hn => Below.heap_setCell _ _ _ _ (by omega)⟩
theorem Touch.alloc {lo : Nat} {a w : World} (h : Touch lo a w) (o : Obj) : Touch lo a (w.alloc o) := h.trans (Touch.of_below ((Below.refl _ _).alloc (Nat.le_refl _) o))
theorem Touch.drewN {lo : Nat} {a w : World} (h : Touch lo a w) (n : Nat) : Touch lo a (w.drewN n) := h.trans (Touch.of_below (below_drewN (Below.refl _ _) n))
theorem Touch.below {B lo : Nat} {W w w' : World} (h : Touch lo w w') (hb : Below B W w) (hB : B ≤ lo) (hB2 : B ≤ w.heap.size) : Below B W w' :=
  hb.trans ⟨h.os, h.tape, h.output, h.size, fun k hk => h.block k (by omega) (Or.inl (by omega))⟩
theorem MemIn.of_blocks {w w' : World} {T : TypeId} {lo b bc bl : Nat} {s : MemS} (h : MemIn w T lo b bc bl s) (hb : ∀ k, lo ≤ k → k < lo + 3 → k < w.heap.size → w'.heap[k]? = w.heap[k]?) : MemIn w' T lo b bc bl s :=
  { h with
    own := h.own.of_block (hb _ h.b1 h.b2 h.own.lt)
    cells := h.cells.of_block (hb _ h.c1 h.c2 h.cells.lt)
    locks := h.locks.of_block (hb _ h.l1 h.l2 h.locks.lt) }
theorem MemAt.below {w w' : World} {T : TypeId} {lo b : Nat} {s : MemS} (h : MemAt w T lo b s) (hb : Below w.heap.size w w') : MemAt w' T lo b s := by
  obtain ⟨bc, bl, h⟩ := h
  exact ⟨bc, bl, h.of_blocks fun k _ _ hk => hb.block k hk⟩
theorem MemAt.touch {w w' : World} {T : TypeId} {lo lo' b : Nat} {s : MemS} (h : MemAt w T lo b s) (ht : Touch lo' w w') (hd : lo + 3 ≤ lo' ∨ lo' + 3 ≤ lo) : MemAt w' T lo b s := by
  obtain ⟨bc, bl, h⟩ := h
  exact ⟨bc, bl, h.of_blocks fun k h1 h2 hk => ht.block k hk (by omega)⟩
theorem MemAt.drewN {w : World} {T : TypeId} {lo b : Nat} {s : MemS} (h : MemAt w T lo b s) (n : Nat) : MemAt (w.drewN n) T lo b s := h.below (below_drewN (Below.refl _ _) n)
theorem MemAt.alloc {w : World} {T : TypeId} {lo b : Nat} {s : MemS} (h : MemAt w T lo b s) (o : Obj) : MemAt (w.alloc o) T lo b s := h.below ((Below.refl _ _).alloc (Nat.le_refl _) o)
/-- A step, a cell, a lock. -/
theorem MemIn.tick {w : World} {T : TypeId} {lo b bc bl : Nat} {s : MemS} (h : MemIn w T lo b bc bl s) : MemIn (w.setCell ⟨b, 2, none⟩ (.int .i64 (s.t + 1))) T lo b bc bl (tickS s) :=
  { h with
    own := (h.own.set 2 _).congr fun i hi => by
      match i, hi with
      | 0, _ => rfl
      | 1, _ => rfl
      | 2, _ => rfl
    cells := h.cells.setOther (Ne.symm h.n1) _
    locks := h.locks.setOther (Ne.symm h.n2) _
    t0 := by have := h.t0; show 0 ≤ s.t + 1; omega }
theorem MemIn.putC {w : World} {T : TypeId} {lo b bc bl : Nat} {s : MemS} (h : MemIn w T lo b bc bl s) (k : Nat) (v : Int) : MemIn (w.setCell ⟨bc, k, none⟩ (.int .u64 v)) T lo b bc bl (putC s k v) :=
  { h with
    own := (h.own.setOther h.n1 _).congr fun i hi => by
      match i, hi with
      | 0, _ => rfl
      | 1, _ => rfl
      | 2, _ => rfl
    cells := (h.cells.set k _).congr fun i hi => by show (if i = k then _ else _) = Value.int .u64 (if i = k then _ else _); split <;> rfl
    locks := h.locks.setOther (Ne.symm h.n3) _ }
theorem MemIn.putL {w : World} {T : TypeId} {lo b bc bl : Nat} {s : MemS} (h : MemIn w T lo b bc bl s) (k : Nat) (v : Int) (hv : -1 ≤ v) : MemIn (w.setCell ⟨bl, k, none⟩ (.int .i64 v)) T lo b bc bl (putL s k v) :=
  { h with
    own := (h.own.setOther h.n2 _).congr fun i hi => by
      match i, hi with
      | 0, _ => rfl
      | 1, _ => rfl
      | 2, _ => rfl
    cells := h.cells.setOther h.n3 _
    locks := (h.locks.set k _).congr fun i hi => by show (if i = k then _ else _) = Value.int .i64 (if i = k then _ else _); split <;> rfl
    hh := fun l => by show -1 ≤ (if l = k then v else s.h l); have := h.hh l; split <;> omega }
/-- What the walks read. -/
theorem MemIn.at_ {w : World} {T : TypeId} {lo b bc bl : Nat} {s : MemS} (h : MemIn w T lo b bc bl s) :
    w.cell? ⟨b, 0, none⟩ = some (.slice (some ⟨bc, 0, none⟩) s.C s.C) ∧ w.cell? ⟨b, 1, none⟩ = some (.slice (some ⟨bl, 0, none⟩) s.L s.L) ∧ w.cell? ⟨b, 2, none⟩ = some (.int .i64 s.t) ∧ w.frozen? ⟨b, 2, none⟩ = false :=
  ⟨h.own.cell (by omega), h.own.cell (by omega), h.own.cell (by omega), h.own.frozen 2⟩
theorem MemIn.c_at {w : World} {T : TypeId} {lo b bc bl : Nat} {s : MemS} (h : MemIn w T lo b bc bl s) {k : Nat} (hk : k < s.C) : w.cell? ⟨bc, k, none⟩ = some (.int .u64 (s.c k)) ∧ w.frozen? ⟨bc, k, none⟩ = false := ⟨h.cells.cell hk, h.cells.frozen k⟩
theorem MemIn.l_at {w : World} {T : TypeId} {lo b bc bl : Nat} {s : MemS} (h : MemIn w T lo b bc bl s) {k : Nat} (hk : k < s.L) : w.cell? ⟨bl, k, none⟩ = some (.int .i64 (s.h k)) ∧ w.frozen? ⟨bl, k, none⟩ = false := ⟨h.locks.cell hk, h.locks.frozen k⟩
/-- It answered v, and the memory is s' then; nothing else was turned. -/
def MemDid (T : TypeId) (lo b : Nat) (s' : MemS) (v : Value) (w : World) (e : Ending) (w' : World) : Prop := e = .returned v ∧ MemAt w' T lo b s' ∧ Touch lo w w'
end Go.Proofs.Ytpojnknhmpmhjaa
