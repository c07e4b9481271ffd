/-
  Words and contracts that a statement's proof rests on (MoB, OpenPn). No statement is proved here.
-/
import Derived.Test.YtpcapdpglpgcbaaGreatBkD
import Derived.Test.YtpcapdpglpgcbaaGreatBuO
set_option linter.unusedVariables false
set_option linter.unusedSimpArgs false
namespace Go.Proofs.YtpcapdpglpgcbaaGreat
section
open Go.RowKit
def planV (P : Int) (vr vv : Value) (S B n t r nm sh : Int) : Value := .agg #[.int .i64 P, vr, vv, .int .i64 S, .int .i64 B, .int .i64 n, .int .i64 t, .int .i64 r, .int .u32 nm, .int .u32 sh]
def planK (c : Nat) (same good size : Bool) : Nat := if c ≠ 0 then c else if (same && good && size) = true then 0 else 1
theorem planK_c {c : Nat} {x y z : Bool} (h : c ≠ 0) : planK c x y z = c := if_pos h
theorem planK_1 {x y z : Bool} (h : (x && y && z) = false) : planK 0 x y z = 1 := by unfold planK; rw [if_neg (by omega), h]; rfl
set_option maxRecDepth 20000 in
set_option maxHeartbeats 1600000 in
theorem model_Check {w : World} {Bo nr nv m : Nat} {vr vv : Value} {lr : List Rl} {lv : List Vl} (hr : Sl w Bo 2 vr nr (rlc lr)) (hv : Sl w Bo 3 vv nv (vlc lv)) (hok : ∀ x ∈ lv, x.ok) (hB : Bo ≤ w.heap.size) (hf : FirstBad lr nr m) (P S B n t r nm sh : Int) :
  Calls Tryz.prog 22 #[planV P vr vv S B n t r nm sh] w (Says (.int .i64 (planK (checkN lv P nv) (decide ((nr : Int) = P)) (!decide (m < nr)) (rightS S B n && (withinI t 8 && withinI r 64)) : Nat)) w) := by
 obtain ⟨Ar, cr, rfl, hcr, hcm⟩ := hr.form
 unfold maxLen at hcm
 have HVC := Lib.hid fun w' (hb : Below w.heap.size w w') => vlan_Check hok (hv.below (hb.mono hB)) (Nat.le_trans hB hb.size) P
 have HCR := Lib.hid fun w' (hb : Below w.heap.size w w') => contains_rules (hr.below (hb.mono hB)) (Nat.le_trans hB hb.size) hf
 have HBR := Lib.hid fun W => book_Right S B n W
 have HT := Lib.hid fun W => model_within t 8 W
 have HR := Lib.hid fun W => model_within r 64 W
 clear hr hv hok hf
 obtain ⟨c, hc⟩ : ∃ c, c = checkN lv P nv := ⟨_, rfl⟩
 obtain ⟨zb, hzb⟩ : ∃ z, z = decide (m < nr) := ⟨_, rfl⟩
 obtain ⟨zs, hzs⟩ : ∃ z, z = rightS S B n := ⟨_, rfl⟩
 obtain ⟨zt, hzt⟩ : ∃ z, z = withinI t 8 := ⟨_, rfl⟩
 obtain ⟨zr, hzr⟩ : ∃ z, z = withinI r 64 := ⟨_, rfl⟩
 rw [← hc] at HVC
 rw [← hzb] at HCR
 rw [← hzs] at HBR
 rw [← hzt] at HT
 rw [← hzr] at HR
 rw [← hc, ← hzb, ← hzs, ← hzt, ← hzr]
 clear hc hzb hzs hzt hzr
 unfold planV
 obtain ⟨X, hX⟩ : ∃ X : Nat, X = planK c (decide ((nr : Int) = P)) (!zb) (zs && (zt && zr)) := ⟨_, rfl⟩
 rw [← hX]
 have HX := Lib.hid hX
 clear hX
 obtain ⟨s, hs0⟩ : ∃ s, s = w.heap.size := ⟨_, rfl⟩
 have HBOX : Hid (∀ w', Below (w.heap.size + 1) (w.alloc (.cells #[.int .i64 P, .slice Ar nr cr, vv, .int .i64 S, .int .i64 B, .int .i64 n, .int .i64 t, .int .i64 r, .int .u32 nm, .int .u32 sh] 39)) w' → w'.cell? ⟨w.heap.size, 0, none⟩ = some (.int .i64 P) ∧ w'.cell? ⟨w.heap.size, 1, none⟩ = some (.slice Ar nr cr) ∧ w'.cell? ⟨w.heap.size, 2, none⟩ = some vv ∧ w'.cell? ⟨w.heap.size, 3, none⟩ = some (.int .i64 S) ∧ w'.cell? ⟨w.heap.size, 4, none⟩ = some (.int .i64 B) ∧ w'.cell? ⟨w.heap.size, 5, none⟩ = some (.int .i64 n) ∧ w'.cell? ⟨w.heap.size, 6, none⟩ = some (.int .i64 t) ∧ w'.cell? ⟨w.heap.size, 7, none⟩ = some (.int .i64 r)) := fun w' hb => by
  refine ⟨?_, ?_, ?_, ?_, ?_, ?_, ?_, ?_⟩ <;>
  ·rw [hb.cell (by show w.heap.size < _; omega)]
   simp [go_sem]
 have HLOW : Hid (∀ w', Below (w.heap.size + 1) (w.alloc (.cells #[.int .i64 P, .slice Ar nr cr, vv, .int .i64 S, .int .i64 B, .int .i64 n, .int .i64 t, .int .i64 r, .int .u32 nm, .int .u32 sh] 39)) w' → Below w.heap.size w w') := fun w' hb => ((Below.refl w.heap.size w).alloc (Nat.le_refl _) _).trans (hb.mono (by omega))
 have HUP : Hid (∀ w' w'', Below (w.heap.size + 1) (w.alloc (.cells #[.int .i64 P, .slice Ar nr cr, vv, .int .i64 S, .int .i64 B, .int .i64 n, .int .i64 t, .int .i64 r, .int .u32 nm, .int .u32 sh] 39)) w' → Below w'.heap.size w' w'' → Below (w.heap.size + 1) (w.alloc (.cells #[.int .i64 P, .slice Ar nr cr, vv, .int .i64 S, .int .i64 B, .int .i64 n, .int .i64 t, .int .i64 r, .int .u32 nm, .int .u32 sh] 39)) w'') := fun w' w'' h1 h2 => h1.trans (h2.mono (by have := h1.size; simp at this; omega))
 have hq : Below (w.heap.size + 1) (w.alloc (.cells #[.int .i64 P, .slice Ar nr cr, vv, .int .i64 S, .int .i64 B, .int .i64 n, .int .i64 t, .int .i64 r, .int .u32 nm, .int .u32 sh] 39)) (w.alloc (.cells #[.int .i64 P, .slice Ar nr cr, vv, .int .i64 S, .int .i64 B, .int .i64 n, .int .i64 t, .int .i64 r, .int .u32 nm, .int .u32 sh] 39)) := Below.refl _ _
 clear hs0 s
 by_cases hc0 : c = 0
 ·subst hc0
  by_cases hs : (nr : Int) = P
  ·have d2 : ((nr : Int) != P) = false := by simp [hs]
   have e2 : decide ((nr : Int) = P) = true := by simp [hs]
   rw [e2] at HX
   clear hs e2
   cases zb <;> cases zs <;> cases zt <;> cases zr
   all_goals (
   go_enter Tryz.func22, Tryz.ntmps22
   go_wp2_with (first
    | (go_at_call 71; (with_reducible refine Calls.mono (HVC.out _ (HLOW.out _ hq)) ?_); rintro e wa ⟨rfl, hba⟩; (have hq := HUP.out _ _ hq hba); (obtain ⟨q0, q1, q2, q3, q4, q5, q6, q7⟩ := HBOX.out _ hq); clear hba)
    | (go_at_call 72; (with_reducible refine Calls.mono (HCR.out _ (HLOW.out _ hq)) ?_); rintro e wa ⟨rfl, hba⟩; (have hq := HUP.out _ _ hq hba); (obtain ⟨q0, q1, q2, q3, q4, q5, q6, q7⟩ := HBOX.out _ hq); clear hba)
    | (go_at_call 74; (with_reducible refine Calls.mono (HBR.out _) ?_); rintro e wa ⟨rfl, hba⟩; (have hq := HUP.out _ _ hq hba); (obtain ⟨q0, q1, q2, q3, q4, q5, q6, q7⟩ := HBOX.out _ hq); clear hba)
    | (go_at_call 75; (with_reducible refine Calls.mono (HT.out _) ?_); rintro e wa ⟨rfl, hba⟩; (have hq := HUP.out _ _ hq hba); (obtain ⟨q0, q1, q2, q3, q4, q5, q6, q7⟩ := HBOX.out _ hq); clear hba)
    | (go_at_call 75; (with_reducible refine Calls.mono (HR.out _) ?_); rintro e wa ⟨rfl, hba⟩; (have hq := HUP.out _ _ hq hba); (obtain ⟨q0, q1, q2, q3, q4, q5, q6, q7⟩ := HBOX.out _ hq); clear hba)
    | fail)
   go_ret
   exact ⟨by rw [HX.out]; rfl, HLOW.out _ hq⟩)
  ·have d2 : ((nr : Int) != P) = true := by simp [hs]
   have e2 : decide ((nr : Int) = P) = false := by simp [hs]
   rw [e2] at HX
   clear hs e2
   go_enter Tryz.func22, Tryz.ntmps22
   go_wp2_with (first
    | (go_at_call 71; (with_reducible refine Calls.mono (HVC.out _ (HLOW.out _ hq)) ?_); rintro e wa ⟨rfl, hba⟩; (have hq := HUP.out _ _ hq hba); (obtain ⟨q0, q1, q2, q3, q4, q5, q6, q7⟩ := HBOX.out _ hq); clear hba)
    | (go_at_call 72; (with_reducible refine Calls.mono (HCR.out _ (HLOW.out _ hq)) ?_); rintro e wa ⟨rfl, hba⟩; (have hq := HUP.out _ _ hq hba); (obtain ⟨q0, q1, q2, q3, q4, q5, q6, q7⟩ := HBOX.out _ hq); clear hba)
    | (go_at_call 74; (with_reducible refine Calls.mono (HBR.out _) ?_); rintro e wa ⟨rfl, hba⟩; (have hq := HUP.out _ _ hq hba); (obtain ⟨q0, q1, q2, q3, q4, q5, q6, q7⟩ := HBOX.out _ hq); clear hba)
    | (go_at_call 75; (with_reducible refine Calls.mono (HT.out _) ?_); rintro e wa ⟨rfl, hba⟩; (have hq := HUP.out _ _ hq hba); (obtain ⟨q0, q1, q2, q3, q4, q5, q6, q7⟩ := HBOX.out _ hq); clear hba)
    | (go_at_call 75; (with_reducible refine Calls.mono (HR.out _) ?_); rintro e wa ⟨rfl, hba⟩; (have hq := HUP.out _ _ hq hba); (obtain ⟨q0, q1, q2, q3, q4, q5, q6, q7⟩ := HBOX.out _ hq); clear hba)
    | fail)
   go_ret
   exact ⟨by rw [HX.out, planK_1 (by simp)]; rfl, HLOW.out _ hq⟩
 ·have d1 : ((c : Int) != 0) = true := by simp; omega
  go_enter Tryz.func22, Tryz.ntmps22
  go_wp2_with (first
    | (go_at_call 71; (with_reducible refine Calls.mono (HVC.out _ (HLOW.out _ hq)) ?_); rintro e wa ⟨rfl, hba⟩; (have hq := HUP.out _ _ hq hba); (obtain ⟨q0, q1, q2, q3, q4, q5, q6, q7⟩ := HBOX.out _ hq); clear hba)
    | (go_at_call 72; (with_reducible refine Calls.mono (HCR.out _ (HLOW.out _ hq)) ?_); rintro e wa ⟨rfl, hba⟩; (have hq := HUP.out _ _ hq hba); (obtain ⟨q0, q1, q2, q3, q4, q5, q6, q7⟩ := HBOX.out _ hq); clear hba)
    | (go_at_call 74; (with_reducible refine Calls.mono (HBR.out _) ?_); rintro e wa ⟨rfl, hba⟩; (have hq := HUP.out _ _ hq hba); (obtain ⟨q0, q1, q2, q3, q4, q5, q6, q7⟩ := HBOX.out _ hq); clear hba)
    | (go_at_call 75; (with_reducible refine Calls.mono (HT.out _) ?_); rintro e wa ⟨rfl, hba⟩; (have hq := HUP.out _ _ hq hba); (obtain ⟨q0, q1, q2, q3, q4, q5, q6, q7⟩ := HBOX.out _ hq); clear hba)
    | (go_at_call 75; (with_reducible refine Calls.mono (HR.out _) ?_); rintro e wa ⟨rfl, hba⟩; (have hq := HUP.out _ _ hq hba); (obtain ⟨q0, q1, q2, q3, q4, q5, q6, q7⟩ := HBOX.out _ hq); clear hba)
    | fail)
  go_ret
  exact ⟨by rw [HX.out, planK_c hc0]; rfl, HLOW.out _ hq⟩
end
section
open Go.ChangeShapes Go.WideShapes Go.RowKit Go.Deep
theorem Sl.of_rls {w : World} {B n b off cap : Nat} {l : List Rl} (hl : l.length = n) (h1 : n ≤ cap) (h2 : cap ≤ maxLen) (hb : b < B)
  (h : ∀ j, j < n → w.cell? ⟨b, off + j * 2, none⟩ = some (.int .i64 (l.getD j rl0).pv) ∧ w.cell? ⟨b, off + j * 2 + 1, none⟩ = some (.int .i64 (l.getD j rl0).ac)) :
  Sl w B 2 (.slice (some ⟨b, off, none⟩) n cap) n (rlc l) := by
 refine ⟨by rw [rlc_length, hl], _, cap, rfl, h1, h2, fun _ => ⟨b, off, rfl, hb, fun j hj => ?_⟩⟩
 have e : j = j / 2 * 2 + j % 2 := by omega
 have hm : j % 2 < 2 := by omega
 have hq : j / 2 < n := by omega
 obtain ⟨c0, c1⟩ := h (j / 2) hq
 have hql : j / 2 < l.length := by omega
 have hv : (rlc l)[j]? = (l[j / 2]?).bind fun x => x.cells[j % 2]? := by
  have := rlc_at l (j / 2) (j % 2) hm
  rw [← e] at this
  exact this
 rw [hv, List.getElem?_eq_getElem hql]
 simp only [List.getD_eq_getElem?_getD, List.getElem?_eq_getElem hql, Option.getD_some] at c0 c1
 have ea : off + j = off + j / 2 * 2 + j % 2 := by omega
 rw [ea]
 rcases (show j % 2 = 0 ∨ j % 2 = 1 by omega) with h | h
 ·rw [h]; exact c0
 ·rw [h]; exact c1
section
variable {H : Type} {enc : TypeId × Value → H} {P : Program} {w : World} {held : Bool}
theorem Holds1.flats {t e : TypeId} {ts : List TypeId} {v : Value} (ht : P.underlying t = some (.slice e)) (hl : leaves P 8 e = some ts) (hC : P.cellsOf e = ts.length) (h0 : 0 < ts.length)
  (h : Holds1 enc P w 0 (fun _ => true) held t v) :
  ∃ (A : Option Addr) (n cap : Nat), v = .slice A n cap ∧ n ≤ cap ∧ cap ≤ maxLen ∧ (0 < n → ∃ b off, A = some ⟨b, off, none⟩ ∧ b < w.heap.size ∧
   ∀ i, i < n → ∀ (j : Nat) tj, ts[j]? = some tj → ∃ u, w.cell? ⟨b, off + i * ts.length + j, none⟩ = some u ∧ Holds1 enc P w 0 (fun _ => true) held tj u) := by
 obtain ⟨fuel, y, hf⟩ := h
 rcases open_slice ht hf with ⟨hcs, _⟩ | ⟨a, len, c, m, k, D, Pl, hcs, _, hl1, hm, hmm, _, hi⟩
 ·obtain rfl : v = .slice none 0 0 := by simpa using hcs
  exact ⟨none, 0, 0, rfl, Nat.le_refl _, by simp [maxLen], fun h => absurd h (by omega)⟩
 ·obtain rfl : v = .slice (some a) len c := by simpa using hcs
  simp only [if_true] at hmm
  subst hmm
  refine ⟨some a, len, m, rfl, hl1, hm, fun hn => ?_⟩
  have hat : ∀ i, i < m → ∀ (j : Nat) tj, ts[j]? = some tj → ∃ u, w.cell? (a.add (i * ts.length + j)) = some u ∧ Holds1 enc P w 0 (fun _ => true) held tj u := by
   intro i him j tj hj
   obtain ⟨cs', hc, ht'⟩ := hi i him
   rw [hC] at hc
   obtain ⟨_, hcl, hcat⟩ := World.cells?_some hc
   obtain ⟨u, hu, hh⟩ := leaves_held 8 e _ _ _ _ hl (by omega) ht' j tj hj
   have hjl : j < ts.length := (List.getElem?_eq_some_iff.1 hj).1
   refine ⟨u, ?_, hh⟩
   rw [← Go.Deep.add_add, hcat j hjl, hu]
  obtain ⟨u0, hu0, _⟩ := hat 0 (by omega) 0 _ (List.getElem?_eq_getElem h0)
  obtain ⟨b, off, spot⟩ := a
  have hspot : spot = none := by simpa [Addr.add] using World.cell?_spot hu0
  subst hspot
  refine ⟨b, off, rfl, World.block_lt_of_cell? w _ (by simpa [Addr.add] using hu0), fun i hi2 j tj hj => ?_⟩
  obtain ⟨u, hu, hh⟩ := hat i (by omega) j tj hj
  have hadd : (⟨b, off, none⟩ : Addr).add (i * ts.length + j) = ⟨b, off + i * ts.length + j, none⟩ := by
   unfold Addr.add; split <;> simp_all [Nat.add_assoc]
  rw [hadd] at hu
  exact ⟨u, hu, hh⟩
theorem Holds1.vls {t e i u : TypeId} {v : Value} (ht : P.underlying t = some (.slice e)) (hl : leaves P 8 e = some [i, u, u]) (hC : P.cellsOf e = 3) (hi : P.underlying i = some (.int .i64)) (hu : P.underlying u = some (.int .u64))
  (h : Holds1 enc P w 0 (fun _ => true) held t v) : ∃ l : List Vl, Sl w w.heap.size 3 v l.length (vlc l) ∧ ∀ x ∈ l, x.ok := by
 obtain ⟨A, n, cap, rfl, hn, hm, hc⟩ := Holds1.flats ht hl hC (by simp) h
 rcases Nat.eq_zero_or_pos n with hz | hz
 ·subst hz
  exact ⟨[], ⟨by simp [vlc], A, cap, rfl, by simp, hm, fun h => absurd h (by simp)⟩, by simp⟩
 ·obtain ⟨b, off, rfl, hb, hcell⟩ := hc hz
  have hex : ∀ j, j < n → ∃ x : Vl, x.ok ∧ w.cell? ⟨b, off + j * 3, none⟩ = some (.int .i64 x.vid) ∧ w.cell? ⟨b, off + j * 3 + 1, none⟩ = some (.int .u64 (x.mem : Nat)) ∧ w.cell? ⟨b, off + j * 3 + 2, none⟩ = some (.int .u64 (x.unt : Nat)) := by
   intro j hj
   obtain ⟨u0, e0, g0⟩ := hcell j hj 0 i rfl
   obtain ⟨u1, e1, g1⟩ := hcell j hj 1 u rfl
   obtain ⟨u2, e2, g2⟩ := hcell j hj 2 u rfl
   obtain ⟨a, rfl, ha⟩ := g0.i64 hi
   obtain ⟨m, rfl, hm1⟩ := g1.u64 hu
   obtain ⟨k, rfl, hk⟩ := g2.u64 hu
   exact ⟨⟨a, m, k⟩, ⟨ha, hm1, hk⟩, e0, e1, e2⟩
  obtain ⟨l, hlen, hq⟩ := list_of vl0 n hex
  subst hlen
  refine ⟨l, Sl.of_vls rfl hn hm hb fun j hj => (hq j hj).2, fun x hx => ?_⟩
  obtain ⟨j, hj, rfl⟩ := List.getElem_of_mem hx
  have := (hq j hj).1
  rwa [List.getD_eq_getElem?_getD, List.getElem?_eq_getElem hj] at this
theorem Holds1.rls {t e i : TypeId} {v : Value} (ht : P.underlying t = some (.slice e)) (hl : leaves P 8 e = some [i, i]) (hC : P.cellsOf e = 2) (hi : P.underlying i = some (.int .i64))
  (h : Holds1 enc P w 0 (fun _ => true) held t v) : ∃ l : List Rl, Sl w w.heap.size 2 v l.length (rlc l) := by
 obtain ⟨A, n, cap, rfl, hn, hm, hc⟩ := Holds1.flats ht hl hC (by simp) h
 rcases Nat.eq_zero_or_pos n with hz | hz
 ·subst hz
  exact ⟨[], ⟨by simp [rlc], A, cap, rfl, by simp, hm, fun h => absurd h (by simp)⟩⟩
 ·obtain ⟨b, off, rfl, hb, hcell⟩ := hc hz
  have hex : ∀ j, j < n → ∃ x : Rl, w.cell? ⟨b, off + j * 2, none⟩ = some (.int .i64 x.pv) ∧ w.cell? ⟨b, off + j * 2 + 1, none⟩ = some (.int .i64 x.ac) := by
   intro j hj
   obtain ⟨u0, e0, g0⟩ := hcell j hj 0 i rfl
   obtain ⟨u1, e1, g1⟩ := hcell j hj 1 i rfl
   obtain ⟨a, rfl, ha⟩ := g0.i64 hi
   obtain ⟨m, rfl, hm1⟩ := g1.i64 hi
   exact ⟨⟨a, m⟩, e0, e1⟩
  obtain ⟨l, hlen, hq⟩ := list_of rl0 n hex
  subst hlen
  exact ⟨l, Sl.of_rls rfl hn hm hb fun j hj => hq j hj⟩
theorem open_plan {r : Reach} {b0 : Nat} {t tr tv er ev i u q : TypeId} {fs : Array Field} {v : Value} {d : DataW H} {p : List MemPlace} (hs : P.underlying t = some (.struct fs)) (hl : leaves P 8 t = some [i, tr, tv, i, i, i, i, i, u, u]) (hn : P.cellsOf t = 10)
  (hi : P.underlying i = some (.int .i64)) (hu : P.underlying u = some (.int .u32)) (hq : P.underlying q = some (.int .u64)) (htr : P.underlying tr = some (.slice er)) (hlr : leaves P 8 er = some [i, i]) (hcr : P.cellsOf er = 2) (htv : P.underlying tv = some (.slice ev)) (hlv : leaves P 8 ev = some [i, q, q]) (hcv : P.cellsOf ev = 3)
  (hv : Value.okWide P w r b0 t v) (h : DataW.Trod enc P w 0 (fun _ => true) held t v d p) :
  ∃ (P0 : Int) (vr vv : Value) (a b c T R : Int) (nm sh : Nat) (lr : List Rl) (lv : List Vl), v = planV P0 vr vv a b c T R nm sh ∧ Sl w w.heap.size 2 vr lr.length (rlc lr) ∧ Sl w w.heap.size 3 vv lv.length (vlc lv) ∧ (∀ x ∈ lv, x.ok) := by
 obtain ⟨l, rfl, hlen, hf⟩ := open_flat hs hl hn hv h
 obtain ⟨u0, e0, g0⟩ := hf 0 i rfl
 obtain ⟨u1, e1, g1⟩ := hf 1 tr rfl
 obtain ⟨u2, e2, g2⟩ := hf 2 tv rfl
 obtain ⟨u3, e3, g3⟩ := hf 3 i rfl
 obtain ⟨u4, e4, g4⟩ := hf 4 i rfl
 obtain ⟨u5, e5, g5⟩ := hf 5 i rfl
 obtain ⟨u6, e6, g6⟩ := hf 6 i rfl
 obtain ⟨u7, e7, g7⟩ := hf 7 i rfl
 obtain ⟨u8, e8, g8⟩ := hf 8 u rfl
 obtain ⟨u9, e9, g9⟩ := hf 9 u rfl
 obtain ⟨x0, rfl, _⟩ := g0.i64 hi
 obtain ⟨lr, hr⟩ := Holds1.rls htr hlr hcr hi g1
 obtain ⟨lv, hvv, hok⟩ := Holds1.vls htv hlv hcv hi hq g2
 obtain ⟨x3, rfl, _⟩ := g3.i64 hi
 obtain ⟨x4, rfl, _⟩ := g4.i64 hi
 obtain ⟨x5, rfl, _⟩ := g5.i64 hi
 obtain ⟨x6, rfl, _⟩ := g6.i64 hi
 obtain ⟨x7, rfl, _⟩ := g7.i64 hi
 obtain ⟨x8, rfl, _⟩ := g8.u32 hu
 obtain ⟨x9, rfl, _⟩ := g9.u32 hu
 match l, hlen with
 | [y0, y1, y2, y3, y4, y5, y6, y7, y8, y9], _ =>
  simp at e0 e1 e2 e3 e4 e5 e6 e7 e8 e9
  subst e0 e1 e2 e3 e4 e5 e6 e7 e8 e9
  exact ⟨x0, _, _, x3, x4, x5, x6, x7, x8, x9, lr, lv, rfl, hr, hvv, hok⟩
end
end
end Go.Proofs.YtpcapdpglpgcbaaGreat
