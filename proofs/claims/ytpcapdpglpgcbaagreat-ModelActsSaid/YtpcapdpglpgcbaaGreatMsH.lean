/-
  Words and contracts that a statement's proof rests on (MsH, MrN, MsG). No statement is proved here.
-/
import Derived.Test.YtpcapdpglpgcbaaGreatMoX
import Derived.Test.YtpcapdpglpgcbaaGreatMrU
import Derived.Test.YtpcapdpglpgcbaaGreatMrD
import Derived.Test.YtpcapdpglpgcbaaGreatMrL
import Derived.Test.YtpcapdpglpgcbaaGreatBkT
set_option linter.unusedVariables false
set_option linter.unusedSimpArgs false
namespace Go.Proofs.YtpcapdpglpgcbaaGreat
section
open Go.RowKit
section
variable {E : Nat → Prop} {w : World} {L A S1 Q bp bq P r S B n nv cQ : Nat} {X : Nat → Value} {uv : Value} {lv : List Vl} {st : Nat → Int × Nat} {g : Nat → Nat → Pl} {G : Nat → Value} {R : Nat → Nat} {qv : Nat → Nat → Value} {qs : Nat → Nat → List Int}
theorem RfAll.grow {w' : World} (h : RfAll E w L A S1 Q cQ X bp bq P r S B n nv uv lv st g G R qv qs) (hz : w.heap.size ≤ w'.heap.size) (hk : ∀ b, b < w.heap.size → ¬ E b → w'.heap[b]? = w.heap[b]?) : RfAll (fun b => E b ∨ (w.heap.size ≤ b ∧ b < w'.heap.size)) w' L A S1 Q cQ X bp bq P r S B n nv uv lv st g G R qv qs := by
 have h' := h.keepE hz hk
 obtain ⟨D, h1, h2, h3, h4, h5⟩ := h.bk
 have hbk : BkAt w' D bp bq S B n g := h1.keep hz fun b hlt hc => hk b hlt (fun he => by
  rcases hc with rfl | rfl | hc
  ·exact (h5 _ he).2.1 rfl
  ·exact (h5 _ he).2.2.1 rfl
  ·exact hc (h5 b he).1)
 refine ⟨h'.md, h'.qu, h'.lbk, fun b => D b ∨ (w.heap.size ≤ b ∧ b < w'.heap.size), ?_, fun b hd => ?_, .inl h3, fun b hc => ⟨.inl (h4 b hc).1, (h4 b hc).2⟩, fun b he => ?_⟩
 ·obtain ⟨k0, k1, k2, k3, k4, k5, k6, k9, k10⟩ := hbk
  obtain ⟨_, _, _, _, _, _, _, _, m10⟩ := h1
  refine ⟨k0, k1, k2, k3, k4, k5, k6, k9, fun a ha => ?_⟩
  obtain ⟨v0, hv0, hrow0⟩ := m10 a ha
  obtain ⟨v, hv, Ax, cap, e1, e2, e3, e4⟩ := k10 a ha
  refine ⟨v, hv, Ax, cap, e1, e2, e3, fun hn => ?_⟩
  obtain ⟨b, off, f1, f2, f3, f4⟩ := e4 hn
  refine ⟨b, off, f1, f2, fun hd => ?_, f4⟩
  rcases hd with hd | hd
  ·exact f3 hd
  ·obtain ⟨Ay, cay, y1, y2, y3, y4⟩ := hrow0
   obtain ⟨b', off', z1, z2, z3, z4⟩ := y4 hn
   have hq0 : w'.cell? ⟨bq, a, none⟩ = w.cell? ⟨bq, a, none⟩ := World.cell?_of_block (hk bq (h2 bq h3) (fun he => (h5 bq he).2.2.1 rfl))
   rw [hq0, hv0] at hv
   injection hv with hv
   rw [y1, e1] at hv
   injection hv with hv
   rw [z1, f1] at hv
   injection hv with hv
   injection hv with hv
   omega
 ·rcases hd with hd | hd
  ·exact Nat.lt_of_lt_of_le (h2 b hd) hz
  ·exact hd.2
 ·rcases he with he | he
  ·exact ⟨.inl (h5 b he).1, (h5 b he).2⟩
  ·refine ⟨.inr he, ?_, ?_, fun hc => ?_⟩
   ·have := h1.1; omega
   ·have := h1.2.1; omega
   ·have := h2 b (h4 b hc).1; omega
end
structure Both (Ep E : Nat → Prop) (w : World) (Lp Ap Sp Qp bpp bqp : Nat) (up : Value) (Gp : Nat → Value) (Rp : Nat → Nat) (qvp : Nat → Nat → Value) (L A S1 Q cQ : Nat) (X : Nat → Value) (bp bq : Nat) (uv : Value) (G : Nat → Value) (R : Nat → Nat) (qv : Nat → Nat → Value) (P r S B n nv : Nat) (s : Ms) : Prop where
 md : MdAll Ep w Lp Ap Sp Qp bpp bqp P r S B n nv up s.lv s.st s.g Gp Rp qvp s.qs
 rf : RfAll E w L A S1 Q cQ X bp bq P r S B n nv uv s.lv s.st s.g G R qv s.qs
 cov : ∀ b, b < w.heap.size → E b ∨ Ep b
section
variable {Ep E : Nat → Prop} {w w' : World} {Lp Ap Sp Qp bpp bqp : Nat} {up : Value} {Gp : Nat → Value} {Rp : Nat → Nat} {qvp qvp' : Nat → Nat → Value} {L A S1 Q cQ : Nat} {X : Nat → Value} {bp bq : Nat} {uv : Value} {G : Nat → Value} {R : Nat → Nat} {qv qv' : Nat → Nat → Value} {P r S B n nv : Nat} {s s' : Ms}
theorem Both.call (h : Both Ep E w Lp Ap Sp Qp bpp bqp up Gp Rp qvp L A S1 Q cQ X bp bq uv G R qv P r S B n nv s) (hb : Below w.heap.size w w') : Both Ep (fun b => E b ∨ (w.heap.size ≤ b ∧ b < w'.heap.size)) w' Lp Ap Sp Qp bpp bqp up Gp Rp qvp L A S1 Q cQ X bp bq uv G R qv P r S B n nv s :=
 ⟨h.md.call hb, h.rf.grow hb.size fun b hlt _ => hb.block b hlt, fun b hlt => by
  by_cases hc : b < w.heap.size
  ·exact (h.cov b hc).imp .inl id
  ·exact .inl (.inr ⟨by omega, hlt⟩)⟩
theorem Both.prog (h : Both Ep E w Lp Ap Sp Qp bpp bqp up Gp Rp qvp L A S1 Q cQ X bp bq uv G R qv P r S B n nv s) (hm : MdAll Ep w' Lp Ap Sp Qp bpp bqp P r S B n nv up s'.lv s'.st s'.g Gp Rp qvp' s'.qs) (hf : MdFr Ep w w' Lp) :
  MdAll Ep w' Lp Ap Sp Qp bpp bqp P r S B n nv up s'.lv s'.st s'.g Gp Rp qvp' s'.qs ∧ RfAll (fun b => E b ∨ (w.heap.size ≤ b ∧ b < w'.heap.size)) w' L A S1 Q cQ X bp bq P r S B n nv uv s.lv s.st s.g G R qv s.qs ∧ ∀ b, b < w'.heap.size → (E b ∨ (w.heap.size ≤ b ∧ b < w'.heap.size)) ∨ Ep b :=
 ⟨hm, h.rf.grow hf.low.size fun b hlt hn => hf.kp b ((h.cov b hlt).resolve_left hn), fun b hlt => by
  by_cases hc : b < w.heap.size
  ·exact (h.cov b hc).imp .inl id
  ·exact .inl (.inr ⟨by omega, hlt⟩)⟩
theorem Both.doc (h1 : MdAll Ep w Lp Ap Sp Qp bpp bqp P r S B n nv up s'.lv s'.st s'.g Gp Rp qvp s'.qs) (hc : ∀ b, b < w.heap.size → E b ∨ Ep b) (hm : RfAll E w' L A S1 Q cQ X bp bq P r S B n nv uv s'.lv s'.st s'.g G R qv' s'.qs) (hf : MdFr E w w' L) :
  Both (fun b => Ep b ∨ (w.heap.size ≤ b ∧ b < w'.heap.size)) E w' Lp Ap Sp Qp bpp bqp up Gp Rp qvp L A S1 Q cQ X bp bq uv G R qv' P r S B n nv s' :=
 ⟨h1.grow hf.low.size fun b hlt hn => hf.kp b ((hc b hlt).resolve_right hn), hm, fun b hlt => by
  by_cases hc' : b < w.heap.size
  ·exact (hc b hc').imp id .inl
  ·exact .inr (.inr ⟨by omega, hlt⟩)⟩
theorem Both.start (h1 : MdAll Ep w Lp Ap Sp Qp bpp bqp P r S B n nv up s'.lv s'.st s'.g Gp Rp qvp s'.qs) (hb : Below w.heap.size w w') (h2 : RfAll (fun b => b < w.heap.size) w' L A S1 Q cQ X bp bq P r S B n nv uv s'.lv s'.st s'.g G R qv' s'.qs) :
  Both (fun b => Ep b ∨ (w.heap.size ≤ b ∧ b < w'.heap.size)) (fun b => b < w.heap.size) w' Lp Ap Sp Qp bpp bqp up Gp Rp qvp L A S1 Q cQ X bp bq uv G R qv' P r S B n nv s' :=
 ⟨h1.grow hb.size fun b hlt _ => hb.block b hlt, h2, fun b hlt => by
  by_cases hc' : b < w.heap.size
  ·exact .inl hc'
  ·exact .inr (.inr ⟨by omega, hlt⟩)⟩
end
end
section
open Go.RowKit
theorem own_rowIs {w : World} {base n : Nat} {T : TypeId} {v : Value} {xs : List Value} (h : w.ownsRow base T 1 v n xs) (hn : 0 < n) :
  ∃ (b cap : Nat) (F : Nat → Value), v = .slice (some ⟨b, 0, none⟩) n cap ∧ n ≤ cap ∧ base ≤ b ∧ w.rowIs b T cap F ∧ ∀ i, i < n → xs[i]? = some (F i) := by
 rcases h.2 with hn' | ⟨b, cap, cur, hv, hb, hh, hnc, hcm, hcs, ht⟩
 ·obtain ⟨hv, hx⟩ := hn'
  have h1 := h.1
  rw [hx] at h1
  simp at h1
  omega
 ·subst hv
  have hr : w.rowIs b T cap (fun i => (cur[i]?).getD (.bool false)) := ⟨cur, hh, by simpa using hcs, fun i hi => by
   have hlt : i < cur.size := by rw [hcs]; omega
   show cur[i]? = some ((cur[i]?).getD (.bool false))
   rw [Array.getElem?_eq_getElem hlt]
   rfl⟩
  refine ⟨b, cap, _, rfl, hnc, hb, hr, fun i hi => ?_⟩
  have h1 := h.cellAt i (by omega)
  rw [← h1]
  exact hr.cell (by omega)
theorem BkAt.grow {w w' : World} {D : Nat → Prop} {p q S B n : Nat} {g : Nat → Nat → Pl} (h : BkAt w D p q S B n g) (hb : Below w.heap.size w w') : BkAt w' (fun b => D b ∨ (w.heap.size ≤ b ∧ b < w'.heap.size)) p q S B n g := by
 have hbq := h.2.1
 obtain ⟨k0, k1, k2, k3, k4, k5, k6, k9, k10⟩ := h.call hb
 obtain ⟨_, _, _, _, _, _, _, _, m10⟩ := h
 refine ⟨k0, k1, k2, k3, k4, k5, k6, k9, fun a ha => ?_⟩
 obtain ⟨v0, hv0, hrow0⟩ := m10 a ha
 obtain ⟨v, hv, Ax, cap, e1, e2, e3, e4⟩ := k10 a ha
 refine ⟨v, hv, Ax, cap, e1, e2, e3, fun hn => ?_⟩
 obtain ⟨b, off, f1, f2, f3, f4⟩ := e4 hn
 refine ⟨b, off, f1, f2, fun hd => ?_, f4⟩
 rcases hd with hd | hd
 ·exact f3 hd
 ·obtain ⟨Ay, cay, y1, y2, y3, y4⟩ := hrow0
  obtain ⟨b', off', z1, z2, z3, z4⟩ := y4 hn
  have hq0 : w'.cell? ⟨q, a, none⟩ = w.cell? ⟨q, a, none⟩ := hb.cell hbq
  rw [hq0, hv0] at hv
  injection hv with hv
  rw [y1, e1] at hv
  injection hv with hv
  rw [z1, f1] at hv
  injection hv with hv
  injection hv with hv
  omega
section
variable {w w1 w' : World} {L A S1 Q cQ : Nat} {X : Nat → Value} {bp bq P r S B n nv H0 : Nat} {uv : Value} {lv : List Vl} {st : Nat → Int × Nat} {G : Nat → Value} {R : Nat → Nat}
theorem RfAll.of_parts (hm : RfAt w' L A S1 Q cQ X uv (.pointer (some ⟨bp, 0, none⟩)) P r nv lv st G) (hq : QuNew w' w1.heap.size P P R G) (hk : BkAt w1 (fun b => b < H0 ∨ b = bp ∨ b = bq) bp bq S B n (fun _ _ => pl0)) (hb : Below w1.heap.size w1 w')
  (hL : L ≤ H0) (h0 : H0 ≤ w1.heap.size) (hp : H0 ≤ bp) (hqq : H0 ≤ bq) (hA : A < H0 ∨ w1.heap.size ≤ A) (hS : S1 < H0 ∨ w1.heap.size ≤ S1) (hQ : Q < H0 ∨ w1.heap.size ≤ Q) (hu : ∀ b, uv.ownBlock = some b → b < H0 ∨ w1.heap.size ≤ b) :
  RfAll (fun b => b < L) w' L A S1 Q cQ X bp bq P r S B n nv uv lv st (fun _ _ => pl0) G R (fun _ _ => .slice none 0 0) (fun _ _ => []) := by
 have hbp := hk.1
 have hbq := hk.2.1
 have hz := hb.size
 have hblk : ∀ b, MdBlk A S1 Q P uv R (fun _ _ => .slice none 0 0) b → (b < H0 ∨ w1.heap.size ≤ b) ∧ b < w'.heap.size := by
  rintro b ((rfl | rfl | rfl | hc) | ⟨i, hi, hc⟩)
  ·exact ⟨hA, hm.cells.lt⟩
  ·exact ⟨hS, hm.stands.lt⟩
  ·exact ⟨hQ, hm.queues.lt⟩
  ·exact ⟨hu b hc, (hm.vlans.lt b hc).2⟩
  ·rcases hc with rfl | ⟨j, hj, hc⟩
   ·exact ⟨.inr (hq i hi).1, (hq i hi).2.2.1.lt⟩
   ·cases hc
 refine ⟨hm, QuAt.of_new hq (by omega), by omega, _, hk.grow hb, fun b hd => ?_, .inl (.inr (.inr rfl)), fun b hc => ?_, fun b he => ?_⟩
 ·rcases hd with (hd | hd | hd) | hd
  ·omega
  ·omega
  ·omega
  ·exact hd.2
 ·obtain ⟨h1, h2⟩ := hblk b hc
  refine ⟨?_, by omega, by omega⟩
  rcases h1 with h1 | h1
  ·exact .inl (.inl h1)
  ·exact .inr ⟨h1, h2⟩
 ·refine ⟨.inl (.inl (by omega)), by omega, by omega, ?_⟩
  have h1 := hm.la
  have h2 := hm.ls
  have h3 := hm.lq
  rintro ((rfl | rfl | rfl | hc) | ⟨i, hi, hc⟩)
  ·omega
  ·omega
  ·omega
  ·have := (hm.vlans.lt b hc).1
   omega
  ·rcases hc with rfl | ⟨j, hj, hc⟩
   ·have := (hq i hi).1
    omega
   ·cases hc
end
end
section
open Go.RowKit
set_option maxHeartbeats 1600000 in
theorem model_StandBad {w : World} {L A S1 Q bp : Nat} {uv : Value} {P r nv : Nat} {lv : List Vl} {st : Nat → Int × Nat} {G : Nat → Value} (h : MdAt w L A S1 Q uv (.pointer (some ⟨bp, 0, none⟩)) P r nv lv st G) (p : Int) (hpb : portB P p = false) :
  Calls Tryz.prog 14 #[.pointer (some ⟨A, 0, none⟩), .int .i64 p] w (Says (.agg #[.int .i64 0, .int .u32 0]) w) := by
 have hip := fun w' (hb : Below w.heap.size w w') => model_isPort (h.call hb) p
 rw [hpb] at hip
 have HIP := Lib.hid hip
 clear h hip hpb
 go_enter Tryz.func14, Tryz.ntmps14
 go_wp2_with fail
 refine (HIP.out _ ((Below.refl _ _).alloc (Nat.le_refl _) _)).mono ?_
 rintro e w1 ⟨rfl, hb⟩
 have hBZ : Below w.heap.size w w1 := ((Below.refl _ _).alloc (Nat.le_refl _) _).trans (hb.mono (by simp))
 have r0 : w1.cell? ⟨w.heap.size, 0, none⟩ = some (.int .i64 0) := by
  rw [hb.cell (by show w.heap.size < _; simp)]
  simp [go_sem]
 have r1 : w1.cell? ⟨w.heap.size, 1, none⟩ = some (.int .u32 0) := by
  rw [hb.cell (by show w.heap.size < _; simp)]
  simp [go_sem]
 have rf : ∀ o, w1.frozen? ⟨w.heap.size, o, none⟩ = false := fun o => by
  rw [hb.frozen (p := ⟨w.heap.size, o, none⟩) (by show w.heap.size < _; simp)]
  simp [go_sem]
 have f0 := rf 0
 have f1 := rf 1
 have HBZ := Lib.hid hBZ
 clear hb hBZ rf
 go_wp2
 exact bodyPost_ret (v := .agg #[.int .i64 0, .int .u32 0]) (by simp [results, Tryz.results14, go_sem, r0, r1]) rfl ⟨rfl, (by (repeat' (first | (with_reducible exact HBZ.out) | (with_reducible refine Below.setCell ?_ ?_ _) | go_size)))⟩
set_option maxHeartbeats 1600000 in
theorem model_QueueBad1 {w : World} {L A S1 Q bp : Nat} {uv : Value} {P r nv : Nat} {lv : List Vl} {st : Nat → Int × Nat} {G : Nat → Value} (h : MdAt w L A S1 Q uv (.pointer (some ⟨bp, 0, none⟩)) P r nv lv st G) (i j : Int) (h1 : portB P i = false) :
  Calls Tryz.prog 15 #[.pointer (some ⟨A, 0, none⟩), .int .i64 i, .int .i64 j] w (Says (.slice none 0 0) w) := by
 have hp1 := fun w' (hb : Below w.heap.size w w') => model_isPort (h.call hb) i
 rw [h1] at hp1
 have HP1 := Lib.hid hp1
 clear h hp1 h1
 go_enter Tryz.func15, Tryz.ntmps15
 go_wp2_with (first
  | (go_at_call 64; (with_reducible refine Calls.mono (HP1.out _ (Below.refl _ _)) ?_); rintro e w1 ⟨rfl, hb⟩; (have HB1 := Lib.hid hb); clear hb)
  | fail)
 go_ret
 exact ⟨by first | rfl | (simp; done), HB1.out⟩
set_option maxHeartbeats 1600000 in
theorem model_QueueBad2 {w : World} {L A S1 Q bp : Nat} {uv : Value} {P r nv : Nat} {lv : List Vl} {st : Nat → Int × Nat} {G : Nat → Value} (h : MdAt w L A S1 Q uv (.pointer (some ⟨bp, 0, none⟩)) P r nv lv st G) (i j : Int) (h1 : portB P i = true) (h2 : portB P j = false) :
  Calls Tryz.prog 15 #[.pointer (some ⟨A, 0, none⟩), .int .i64 i, .int .i64 j] w (Says (.slice none 0 0) w) := by
 have hp1 := fun w' (hb : Below w.heap.size w w') => model_isPort (h.call hb) i
 have hp2 := fun w' (hb : Below w.heap.size w w') => model_isPort (h.call hb) j
 rw [h1] at hp1
 rw [h2] at hp2
 have HP1 := Lib.hid hp1
 have HP2 := Lib.hid hp2
 clear h hp1 hp2 h1 h2
 go_enter Tryz.func15, Tryz.ntmps15
 go_wp2_with (first
  | (go_at_call 64; (with_reducible refine Calls.mono (HP1.out _ (Below.refl _ _)) ?_); rintro e w1 ⟨rfl, hb⟩; (have HB1 := Lib.hid hb); clear hb HP1)
  | (go_at_call 64; (with_reducible refine Calls.mono (HP2.out _ HB1.out) ?_); rintro e w2 ⟨rfl, hb⟩; (have HB := Lib.hid (HB1.out.trans (hb.mono HB1.out.size))); clear hb HP2)
  | fail)
 go_ret
 exact ⟨by first | rfl | (simp; done), HB.out⟩
end
end Go.Proofs.YtpcapdpglpgcbaaGreat
