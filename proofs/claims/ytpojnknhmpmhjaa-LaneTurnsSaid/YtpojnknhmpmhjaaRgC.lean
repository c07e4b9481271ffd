/-
  What a step of an act makes of the ring, of the memory and of the act. No statement is proved here.
-/
import Derived.Test.YtpojnknhmpmhjaaRgB
import Derived.Deep.RegionHeld3
set_option linter.unusedVariables false
namespace Go.Proofs.Ytpojnknhmpmhjaa
open Go.RowKit

/-- It answered v; so the ring and the act are then; nothing else was turned. -/
def Did (lo b rb ab : Nat) (g' : RgS) (a' : AcS) (v : Value) (w : World) (e : Ending) (w' : World) : Prop := e = .returned v ∧ RingAt w' lo b rb g' ∧ ActAt w' rb ab a' ∧ Tch (RingD lo rb ab) w w'
theorem MemAt.setFar {w : World} {T : TypeId} {lo b : Nat} {s : MemS} (h : MemAt w T lo b s) {p : Addr} (hp : lo + 3 ≤ p.block) (v : Value) : MemAt (w.setCell p v) T lo b s := by
  obtain ⟨bc, bl, h⟩ := h
  exact ⟨bc, bl, h.of_blocks fun k h1 h2 hk => Below.heap_setCell _ _ _ _ (by omega)⟩
theorem RingAt.setAct {w : World} {lo b rb : Nat} {g : RgS} (h : RingAt w lo b rb g) {ab : Nat} (h1 : lo + 3 ≤ ab) (h2 : ab ≠ rb) (o : Nat) (v : Value) : RingAt (w.setCell ⟨ab, o, none⟩ v) lo b rb g :=
  ⟨h.mem.setFar h1 v, h.row.setOther (Ne.symm h2) v, h.out, h.fits⟩
theorem RingAt.setPu {w : World} {lo b rb : Nat} {g : RgS} (h : RingAt w lo b rb g) (z : Bool) : RingAt (w.setCell ⟨rb, 4, none⟩ (.bool z)) lo b rb { g with pu := z } :=
  ⟨h.mem.setFar h.out _, (h.row.set 4 _).congr fun i hi => (by
    match i, hi with
    | 0, _ => rfl
    | 1, _ => rfl
    | 2, _ => rfl
    | 3, _ => rfl
    | 4, _ => rfl
    | 5, _ => rfl), h.out, ⟨h.fits.cells, h.fits.mem, h.fits.one, h.fits.most⟩⟩
theorem RingAt.setPo {w : World} {lo b rb : Nat} {g : RgS} (h : RingAt w lo b rb g) (z : Bool) : RingAt (w.setCell ⟨rb, 5, none⟩ (.bool z)) lo b rb { g with po := z } :=
  ⟨h.mem.setFar h.out _, (h.row.set 5 _).congr fun i hi => (by
    match i, hi with
    | 0, _ => rfl
    | 1, _ => rfl
    | 2, _ => rfl
    | 3, _ => rfl
    | 4, _ => rfl
    | 5, _ => rfl), h.out, ⟨h.fits.cells, h.fits.mem, h.fits.one, h.fits.most⟩⟩
theorem RingAt.memory {w w' : World} {lo b rb : Nat} {g : RgS} (h : RingAt w lo b rb g) {m' : MemS} (hm : MemAt w' 81 lo b m') (ht : Touch lo w w') (hC : m'.C = g.m.C) : RingAt w' lo b rb { g with m := m' } :=
  ⟨hm, h.row.of_block (ht.block _ h.lt (.inr h.out)), h.out, ⟨by show _ ≤ m'.C; rw [hC]; exact h.fits.cells, by show m'.C ≤ _; rw [hC]; exact h.fits.mem, h.fits.one, h.fits.most⟩⟩
theorem ActAt.touch {w w' : World} {lo rb ab : Nat} {a : AcS} (h : ActAt w rb ab a) (ht : Touch lo w w') (h1 : lo + 3 ≤ ab) : ActAt w' rb ab a := World.rowIs.of_block h (ht.block _ h.lt (.inr h1))
theorem ActAt.setOther {w : World} {rb ab : Nat} {a : AcS} (h : ActAt w rb ab a) {p : Nat} (hp : p ≠ ab) (o : Nat) (v : Value) : ActAt (w.setCell ⟨p, o, none⟩ v) rb ab a := World.rowIs.setOther h (Ne.symm hp) v
theorem ActAt.set_stage {w : World} {rb ab : Nat} {a : AcS} (h : ActAt w rb ab a) (z : Nat) : ActAt (w.setCell ⟨ab, 2, none⟩ (.int .i64 (z : Nat))) rb ab { a with stage := z } :=
  (World.rowIs.set h 2 _).congr fun i hi => (by
    match i, hi with
    | 0, _ => rfl
    | 1, _ => rfl
    | 2, _ => rfl
    | 3, _ => rfl
    | 4, _ => rfl
    | 5, _ => rfl
    | 6, _ => rfl)
theorem ActAt.set_cnt {w : World} {rb ab : Nat} {a : AcS} (h : ActAt w rb ab a) (z : Int) : ActAt (w.setCell ⟨ab, 3, none⟩ (.int .u64 z)) rb ab { a with cnt := z } :=
  (World.rowIs.set h 3 _).congr fun i hi => (by
    match i, hi with
    | 0, _ => rfl
    | 1, _ => rfl
    | 2, _ => rfl
    | 3, _ => rfl
    | 4, _ => rfl
    | 5, _ => rfl
    | 6, _ => rfl)
theorem ActAt.set_num {w : World} {rb ab : Nat} {a : AcS} (h : ActAt w rb ab a) (z : Int) : ActAt (w.setCell ⟨ab, 4, none⟩ (.int .u64 z)) rb ab { a with num := z } :=
  (World.rowIs.set h 4 _).congr fun i hi => (by
    match i, hi with
    | 0, _ => rfl
    | 1, _ => rfl
    | 2, _ => rfl
    | 3, _ => rfl
    | 4, _ => rfl
    | 5, _ => rfl
    | 6, _ => rfl)
theorem ActAt.set_ok {w : World} {rb ab : Nat} {a : AcS} (h : ActAt w rb ab a) (z : Bool) : ActAt (w.setCell ⟨ab, 5, none⟩ (.bool z)) rb ab { a with ok := z } :=
  (World.rowIs.set h 5 _).congr fun i hi => (by
    match i, hi with
    | 0, _ => rfl
    | 1, _ => rfl
    | 2, _ => rfl
    | 3, _ => rfl
    | 4, _ => rfl
    | 5, _ => rfl
    | 6, _ => rfl)
theorem ActAt.set_mark {w : World} {rb ab : Nat} {a : AcS} (h : ActAt w rb ab a) (z : Int) : ActAt (w.setCell ⟨ab, 6, none⟩ (.int .i64 z)) rb ab { a with mark := z } :=
  (World.rowIs.set h 6 _).congr fun i hi => (by
    match i, hi with
    | 0, _ => rfl
    | 1, _ => rfl
    | 2, _ => rfl
    | 3, _ => rfl
    | 4, _ => rfl
    | 5, _ => rfl
    | 6, _ => rfl)
theorem Tch.act {lo rb ab : Nat} {u w : World} (h : Tch (RingD lo rb ab) u w) (o : Nat) (v : Value) : Tch (RingD lo rb ab) u (w.setCell ⟨ab, o, none⟩ v) := h.setCell (.inr (.inr rfl)) v
theorem Tch.ring {lo rb ab : Nat} {u w : World} (h : Tch (RingD lo rb ab) u w) (o : Nat) (v : Value) : Tch (RingD lo rb ab) u (w.setCell ⟨rb, o, none⟩ v) := h.setCell (.inr (.inl rfl)) v
theorem Tch.touch {lo rb ab : Nat} {u w w' : World} (h : Tch (RingD lo rb ab) u w) (ht : Touch lo w w') : Tch (RingD lo rb ab) u w' := h.trans (Tch.of_touch ht fun k h1 h2 => .inl ⟨h1, h2⟩)

set_option maxHeartbeats 1600000 in
theorem act_end {w : World} {lo b rb ab : Nat} {g : RgS} {a : AcS} (hr : RingAt w lo b rb g) (ha : ActAt w rb ab a) (h1 : lo + 3 ≤ ab) (h2 : ab ≠ rb) (ht : g.m.t ≤ 4611686018427387903) (z : Bool) :
    Calls Try.prog 55 #[.pointer (some ⟨ab, 0, none⟩), .bool z] w (Did lo b rb ab (endR g a.puts) { a with stage := 0, ok := z, mark := g.m.t } (.tuple #[]) w) := by
  obtain ⟨s0, s1, s2, s3, s4, s5, s6⟩ := hr.at_
  obtain ⟨r0, r1, r2, r3, r4, r5, r6, r7⟩ := ha.at_
  have hr1 := (hr.setAct h1 h2 2 (.int .i64 0)).setAct h1 h2 5 (.bool z)
  have hT := Lib.hid (mem_Time hr1.mem)
  have hr2 := hr1.setAct h1 h2 6 (.int .i64 g.m.t)
  have ha2 := ((ha.set_stage 0).set_ok z).set_mark g.m.t
  have hx : ((0 : Nat) : Int) = 0 := rfl
  have hne : rb ≠ ab := Ne.symm h2
  have HR := Lib.hid hr2
  have HA := Lib.hid ha2
  have HB : Hid (Tch (RingD lo rb ab) w (((w.setCell ⟨ab, 2, none⟩ (.int .i64 0)).setCell ⟨ab, 5, none⟩ (.bool z)).setCell ⟨ab, 6, none⟩ (.int .i64 g.m.t))) := (((Tch.refl _ w).act 2 _).act 5 _).act 6 _
  unfold endR
  generalize g.m.t = t at *
  obtain ⟨pt, sg, cn, nm, ok, mk⟩ := a
  simp only at r1 r2 r3 r4 r5 r6
  clear hr ha hr1 hr2 ha2 s1 s2 s3 r3 r4 hx
  cases pt
  · go_enter Try.func55, Try.ntmps55
    go_wp2_with fail
    refine (hT.out).mono ?_
    rintro e w1 ⟨rfl, rfl⟩
    go_wp2
    go_end0
    refine ⟨rfl, HR.out.setPo false, HA.out.setOther hne _ _, HB.out.ring 5 _⟩
  · go_enter Try.func55, Try.ntmps55
    go_wp2_with fail
    refine (hT.out).mono ?_
    rintro e w1 ⟨rfl, rfl⟩
    go_wp2
    go_end0
    refine ⟨rfl, HR.out.setPu false, HA.out.setOther hne _ _, HB.out.ring 4 _⟩
end Go.Proofs.Ytpojnknhmpmhjaa
