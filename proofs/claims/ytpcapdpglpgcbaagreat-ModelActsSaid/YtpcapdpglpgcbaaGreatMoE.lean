/-
  Words and contracts that a statement's proof rests on (MoS, MoE, BkG, BkH, BkJ, MoL). No statement is proved here.
-/
import Derived.Test.YtpcapdpglpgcbaaGreatKeep
import Derived.Test.YtpcapdpglpgcbaaGreatBkD
import Derived.Test.YtpcapdpglpgcbaaGreatMoX
import Derived.Test.YtpcapdpglpgcbaaGreatMoG
import Derived.Test.YtpcapdpglpgcbaaGreatBkI
import Derived.Test.YtpcapdpglpgcbaaGreatBkF
set_option linter.unusedVariables false
set_option linter.unusedSimpArgs false
namespace Go.Proofs.YtpcapdpglpgcbaaGreat
section
open Go.RowKit
set_option maxHeartbeats 800000 in
theorem law11_To (a b c : Int) (w : World) :
  Calls Tryz.prog 26 #[.agg #[.int .i64 a, .int .i64 b, .int .i64 c]] w (Says (.agg #[.int .i64 a, .int .i64 b, .int .i64 c]) w) := by
 go_enter Tryz.func26, Tryz.ntmps26
 go_wp2
 exact bodyPost_ret (v := .agg #[.int .i64 a, .int .i64 b, .int .i64 c]) (by simp [results, Tryz.results26, go_sem]) rfl ⟨rfl, (by (repeat' (first | (with_reducible exact Below.refl _ _) | (with_reducible refine Below.setCell ?_ ?_ _) | (with_reducible refine Below.alloc ?_ ?_ _) | go_size)))⟩
set_option maxHeartbeats 1600000 in
theorem ref11_Fix (a b c : Int) (S B n : Nat) (h1 : wrap64 (1 + wrap64 ((IntKind.u64.wrap a).tmod ((8 : Nat) : Int))) = (S : Int)) (h2 : wrap64 (1 + wrap64 ((IntKind.u64.wrap b).tmod ((16 : Nat) : Int))) = (B : Int)) (h3 : wrap64 (1 + wrap64 ((IntKind.u64.wrap c).tmod ((8 : Nat) : Int))) = (n : Int)) (w : World) :
  Calls Tryz.prog 18 #[.agg #[.int .i64 a, .int .i64 b, .int .i64 c]] w (Says (.agg #[.int .i64 (S : Nat), .int .i64 (B : Nat), .int .i64 (n : Nat)]) w) := by
 rw [show ((8 : Nat) : Int) = 8 from rfl] at h1 h3
 rw [show ((16 : Nat) : Int) = 16 from rfl] at h2
 go_enter Tryz.func18, Tryz.ntmps18
 go_wp2
 exact bodyPost_ret (v := .agg #[.int .i64 (S : Nat), .int .i64 (B : Nat), .int .i64 (n : Nat)]) (by simp [results, Tryz.results18, go_sem]) rfl ⟨rfl, (by (repeat' (first | (with_reducible exact Below.refl _ _) | (with_reducible refine Below.setCell ?_ ?_ _) | (with_reducible refine Below.alloc ?_ ?_ _) | go_size)))⟩
end
section
open Go.RowKit
set_option maxHeartbeats 800000 in
theorem model_may0 {w : World} {L A S1 Q bp : Nat} {uv : Value} {P r nv : Nat} {lv : List Vl} {st : Nat → Int × Nat} {G : Nat → Value} (h : MdAt w L A S1 Q uv (.pointer (some ⟨bp, 0, none⟩)) P r nv lv st G) (po tt vi sx : Int) (kv km me un nw li sh bu id : Int) : Calls Tryz.prog 29 #[.pointer (some ⟨A, 0, none⟩), opV 0 po tt vi sx kv km me un nw li sh bu id] w (Says (.bool (portB P po)) w) := by
 have HH := Lib.hid h
 have HP := Lib.hid fun w' (hb : Below w.heap.size w w') => model_isPort (h.call hb) po
 clear h
 unfold opV
 go_enter Tryz.func29, Tryz.ntmps29
 go_wp2_with fail
 refine (HP.out _ ((Below.refl _ _).alloc (Nat.le_refl _) _)).mono ?_
 rintro e w1 ⟨rfl, hb⟩
 go_wp2
 go_ret
 exact ⟨rfl, ((Below.refl _ _).alloc (Nat.le_refl _) _).trans (hb.mono (by simp))⟩
set_option maxHeartbeats 800000 in
theorem model_may2 {w : World} {L A S1 Q bp : Nat} {uv : Value} {P r nv : Nat} {lv : List Vl} {st : Nat → Int × Nat} {G : Nat → Value} (h : MdAt w L A S1 Q uv (.pointer (some ⟨bp, 0, none⟩)) P r nv lv st G) (po tt vi sx : Int) (kv km me un nw li sh bu id : Int) : Calls Tryz.prog 29 #[.pointer (some ⟨A, 0, none⟩), opV 2 po tt vi sx kv km me un nw li sh bu id] w (Says (.bool (portB P po)) w) := by
 have HH := Lib.hid h
 have HP := Lib.hid fun w' (hb : Below w.heap.size w w') => model_isPort (h.call hb) po
 clear h
 unfold opV
 go_enter Tryz.func29, Tryz.ntmps29
 go_wp2_with fail
 refine (HP.out _ ((Below.refl _ _).alloc (Nat.le_refl _) _)).mono ?_
 rintro e w1 ⟨rfl, hb⟩
 go_wp2
 go_ret
 exact ⟨rfl, ((Below.refl _ _).alloc (Nat.le_refl _) _).trans (hb.mono (by simp))⟩
set_option maxHeartbeats 800000 in
theorem model_may4 {w : World} {L A S1 Q bp : Nat} {uv : Value} {P r nv : Nat} {lv : List Vl} {st : Nat → Int × Nat} {G : Nat → Value} (h : MdAt w L A S1 Q uv (.pointer (some ⟨bp, 0, none⟩)) P r nv lv st G) (po tt vi sx : Int) (kv km me un nw li sh bu id : Int) : Calls Tryz.prog 29 #[.pointer (some ⟨A, 0, none⟩), opV 4 po tt vi sx kv km me un nw li sh bu id] w (Says (.bool (portB P po)) w) := by
 have HH := Lib.hid h
 have HP := Lib.hid fun w' (hb : Below w.heap.size w w') => model_isPort (h.call hb) po
 clear h
 unfold opV
 go_enter Tryz.func29, Tryz.ntmps29
 go_wp2_with fail
 refine (HP.out _ ((Below.refl _ _).alloc (Nat.le_refl _) _)).mono ?_
 rintro e w1 ⟨rfl, hb⟩
 go_wp2
 go_ret
 exact ⟨rfl, ((Below.refl _ _).alloc (Nat.le_refl _) _).trans (hb.mono (by simp))⟩
set_option maxHeartbeats 800000 in
theorem model_may1 {w : World} {L A S1 Q bp : Nat} {uv : Value} {P r nv : Nat} {lv : List Vl} {st : Nat → Int × Nat} {G : Nat → Value} (h : MdAt w L A S1 Q uv (.pointer (some ⟨bp, 0, none⟩)) P r nv lv st G) (po tt vi sx : Int) (kv km me un nw li sh bu id : Int) : Calls Tryz.prog 29 #[.pointer (some ⟨A, 0, none⟩), opV 1 po tt vi sx kv km me un nw li sh bu id] w (Says (.bool true) w) := by
 clear h
 unfold opV
 go_enter Tryz.func29, Tryz.ntmps29
 go_wp2_with fail
 go_ret
 exact ⟨rfl, (Below.refl _ _).alloc (Nat.le_refl _) _⟩
set_option maxHeartbeats 800000 in
theorem model_may3 {w : World} {L A S1 Q bp : Nat} {uv : Value} {P r nv : Nat} {lv : List Vl} {st : Nat → Int × Nat} {G : Nat → Value} (h : MdAt w L A S1 Q uv (.pointer (some ⟨bp, 0, none⟩)) P r nv lv st G) (po tt vi sx : Int) (kv km me un nw li sh bu id : Int) : Calls Tryz.prog 29 #[.pointer (some ⟨A, 0, none⟩), opV 3 po tt vi sx kv km me un nw li sh bu id] w (Says (.bool true) w) := by
 clear h
 unfold opV
 go_enter Tryz.func29, Tryz.ntmps29
 go_wp2_with fail
 go_ret
 exact ⟨rfl, (Below.refl _ _).alloc (Nat.le_refl _) _⟩
set_option maxHeartbeats 800000 in
theorem model_may5 {w : World} {L A S1 Q bp : Nat} {uv : Value} {P r nv : Nat} {lv : List Vl} {st : Nat → Int × Nat} {G : Nat → Value} (h : MdAt w L A S1 Q uv (.pointer (some ⟨bp, 0, none⟩)) P r nv lv st G) (po tt vi sx : Int) (kv km me un nw li sh bu id : Int) : Calls Tryz.prog 29 #[.pointer (some ⟨A, 0, none⟩), opV 5 po tt vi sx kv km me un nw li sh bu id] w (Says (.bool true) w) := by
 clear h
 unfold opV
 go_enter Tryz.func29, Tryz.ntmps29
 go_wp2_with fail
 go_ret
 exact ⟨rfl, (Below.refl _ _).alloc (Nat.le_refl _) _⟩
set_option maxHeartbeats 800000 in
theorem model_may6 {w : World} {L A S1 Q bp : Nat} {uv : Value} {P r nv : Nat} {lv : List Vl} {st : Nat → Int × Nat} {G : Nat → Value} (h : MdAt w L A S1 Q uv (.pointer (some ⟨bp, 0, none⟩)) P r nv lv st G) (po tt vi sx : Int) (kv km me un nw li sh bu id : Int) : Calls Tryz.prog 29 #[.pointer (some ⟨A, 0, none⟩), opV 6 po tt vi sx kv km me un nw li sh bu id] w (Says (.bool true) w) := by
 clear h
 unfold opV
 go_enter Tryz.func29, Tryz.ntmps29
 go_wp2_with fail
 go_ret
 exact ⟨rfl, (Below.refl _ _).alloc (Nat.le_refl _) _⟩
set_option maxHeartbeats 800000 in
theorem model_may7 {w : World} {L A S1 Q bp : Nat} {uv : Value} {P r nv : Nat} {lv : List Vl} {st : Nat → Int × Nat} {G : Nat → Value} (h : MdAt w L A S1 Q uv (.pointer (some ⟨bp, 0, none⟩)) P r nv lv st G) (po tt vi sx : Int) (kv km me un nw li sh bu id : Int) : Calls Tryz.prog 29 #[.pointer (some ⟨A, 0, none⟩), opV 7 po tt vi sx kv km me un nw li sh bu id] w (Says (.bool true) w) := by
 clear h
 unfold opV
 go_enter Tryz.func29, Tryz.ntmps29
 go_wp2_with fail
 go_ret
 exact ⟨rfl, (Below.refl _ _).alloc (Nat.le_refl _) _⟩
set_option maxHeartbeats 800000 in
theorem model_may9 {w : World} {L A S1 Q bp : Nat} {uv : Value} {P r nv : Nat} {lv : List Vl} {st : Nat → Int × Nat} {G : Nat → Value} (h : MdAt w L A S1 Q uv (.pointer (some ⟨bp, 0, none⟩)) P r nv lv st G) (po tt vi sx : Int) (kv km me un nw li sh bu id : Int) : Calls Tryz.prog 29 #[.pointer (some ⟨A, 0, none⟩), opV 9 po tt vi sx kv km me un nw li sh bu id] w (Says (.bool true) w) := by
 clear h
 unfold opV
 go_enter Tryz.func29, Tryz.ntmps29
 go_wp2_with fail
 go_ret
 exact ⟨rfl, (Below.refl _ _).alloc (Nat.le_refl _) _⟩
set_option maxHeartbeats 1600000 in
theorem model_may10 {w : World} {L A S1 Q bp : Nat} {uv : Value} {P r nv : Nat} {lv : List Vl} {st : Nat → Int × Nat} {G : Nat → Value} (h : MdAt w L A S1 Q uv (.pointer (some ⟨bp, 0, none⟩)) P r nv lv st G) (po tt vi sx : Int) (kv km me un nw li sh bu id : Int) (h1 : portB P po = true) (h2 : portB P tt = true) : Calls Tryz.prog 29 #[.pointer (some ⟨A, 0, none⟩), opV 10 po tt vi sx kv km me un nw li sh bu id] w (Says (.bool true) w) := by
 have hp1 := fun w' (hb : Below w.heap.size w w') => model_isPort (h.call hb) po
 have hp2 := fun w' (hb : Below w.heap.size w w') => model_isPort (h.call hb) tt
 rw [h1] at hp1
 rw [h2] at hp2
 have HP1 := Lib.hid hp1
 have HP2 := Lib.hid hp2
 clear h h1 h2 hp1 hp2
 unfold opV
 go_enter Tryz.func29, Tryz.ntmps29
 go_wp2_with fail
 refine (HP1.out _ ((Below.refl _ _).alloc (Nat.le_refl _) _)).mono ?_
 rintro e w1 ⟨rfl, hb⟩
 have HB1 : Hid (Below w.heap.size w w1) := ((Below.refl _ _).alloc (Nat.le_refl _) _).trans (hb.mono (by simp))
 have c2 : w1.cell? ⟨w.heap.size, 2, none⟩ = some (.int .i64 tt) := by
  rw [hb.cell (by show w.heap.size < _; simp)]
  simp [go_sem]
 clear hb
 go_wp2_with fail
 refine (HP2.out _ HB1.out).mono ?_
 rintro e w2 ⟨rfl, hb⟩
 have HB2 : Hid (Below w.heap.size w w2) := HB1.out.trans (hb.mono HB1.out.size)
 clear hb c2
 go_wp2
 go_ret
 exact ⟨by first | rfl | (simp; done), HB2.out⟩
set_option maxHeartbeats 1600000 in
theorem model_may11 {w : World} {L A S1 Q bp : Nat} {uv : Value} {P r nv : Nat} {lv : List Vl} {st : Nat → Int × Nat} {G : Nat → Value} (h : MdAt w L A S1 Q uv (.pointer (some ⟨bp, 0, none⟩)) P r nv lv st G) (po tt vi sx : Int) (kv km me un nw li sh bu id : Int) (h1 : portB P po = true) (h2 : portB P tt = true) : Calls Tryz.prog 29 #[.pointer (some ⟨A, 0, none⟩), opV 11 po tt vi sx kv km me un nw li sh bu id] w (Says (.bool true) w) := by
 have hp1 := fun w' (hb : Below w.heap.size w w') => model_isPort (h.call hb) po
 have hp2 := fun w' (hb : Below w.heap.size w w') => model_isPort (h.call hb) tt
 rw [h1] at hp1
 rw [h2] at hp2
 have HP1 := Lib.hid hp1
 have HP2 := Lib.hid hp2
 clear h h1 h2 hp1 hp2
 unfold opV
 go_enter Tryz.func29, Tryz.ntmps29
 go_wp2_with fail
 refine (HP1.out _ ((Below.refl _ _).alloc (Nat.le_refl _) _)).mono ?_
 rintro e w1 ⟨rfl, hb⟩
 have HB1 : Hid (Below w.heap.size w w1) := ((Below.refl _ _).alloc (Nat.le_refl _) _).trans (hb.mono (by simp))
 have c2 : w1.cell? ⟨w.heap.size, 2, none⟩ = some (.int .i64 tt) := by
  rw [hb.cell (by show w.heap.size < _; simp)]
  simp [go_sem]
 clear hb
 go_wp2_with fail
 refine (HP2.out _ HB1.out).mono ?_
 rintro e w2 ⟨rfl, hb⟩
 have HB2 : Hid (Below w.heap.size w w2) := HB1.out.trans (hb.mono HB1.out.size)
 clear hb c2
 go_wp2
 go_ret
 exact ⟨by first | rfl | (simp; done), HB2.out⟩
theorem portB_in {P p : Nat} (h : p < P) : portB P (p : Int) = true := by
 unfold portB
 simp
 omega
end
section
open Go.RowKit
def R1 : Nat → Pl := (putF (fun _ => ownP pl0) ⟨1, 2, 3, false, 5⟩ 5 1).1
def R2 : Nat → Pl := (putF (fun i => ownP (R1 i)) ⟨1, 4, 1, false, 6⟩ 6 1).1
def g1 : Nat → Nat → Pl := updR (fun _ _ => pl0) 0 R1
def g2 : Nat → Nat → Pl := updR g1 0 R2
end
section
open Go.RowKit
end
section
open Go.RowKit
def flR (a b : Int) (f : Nat → Pl) : Nat → Pl := sweepF (fun i => ownP (f i)) (hitE a b)
def flN (a b : Int) (f : Nat → Pl) (n : Nat) : Nat := goneF (fun i => ownP (f i)) (hitE a b) n
def flC (a b : Int) (g : Nat → Nat → Pl) (n : Nat) : Nat → Nat
 | 0 => 0
 | k + 1 => flC a b g n k + flN a b (g k) n
def flG (a b : Int) (g : Nat → Nat → Pl) (k j : Nat) : Nat → Pl := if j < k then flR a b (g j) else g j
theorem flC_le (a b : Int) (g : Nat → Nat → Pl) (n : Nat) : ∀ k, flC a b g n k ≤ k * n
 | 0 => by simp [flC]
 | k + 1 => by
  have h1 := flC_le a b g n k
  have h2 : flN a b (g k) n ≤ n := goneF_le _ _ n
  rw [flC, Nat.add_mul]
  omega
theorem BkAt.congr {w : World} {D : Nat → Prop} {p q S B n : Nat} {g g' : Nat → Nat → Pl} (h : BkAt w D p q S B n g) (hg : ∀ i, i < S * B → g i = g' i) : BkAt w D p q S B n g' := by
 obtain ⟨h0, h1, h2, h3, h4, h5, h6, h9, h10⟩ := h
 refine ⟨h0, h1, h2, h3, h4, h5, h6, h9, fun i hi => ?_⟩
 obtain ⟨v, hv, hr⟩ := h10 i hi
 exact ⟨v, hv, by rw [← hg i hi]; exact hr⟩
theorem add_in {c d : Nat} (h : c + d ≤ 1024) : wrap64 ((c : Int) + (d : Int)) = ((c + d : Nat) : Int) ∧ IntKind.i64.wrap ((c : Int) + (d : Int)) = ((c + d : Nat) : Int) := by
 have e : (c : Int) + (d : Int) = ((c + d : Nat) : Int) := by simp
 rw [e]
 exact ⟨IntWalk.wrap64_in _ (by omega), IntWalk.i64_in _ (by omega)⟩
set_option maxRecDepth 20000 in
set_option maxHeartbeats 6400000 in
theorem book_Flush {w : World} {D : Nat → Prop} {p q S B n : Nat} {g : Nat → Nat → Pl} (h : BkAt w D p q S B n g) (hD : ∀ b, D b → b < w.heap.size) (hq : D q) (hS : 1 ≤ S ∧ S ≤ 8) (hB : 1 ≤ B ∧ B ≤ 16) (hn : n ≤ 8) (a b : Int) :
  Calls Tryz.prog 37 #[.pointer (some ⟨p, 0, none⟩), .agg #[.int .i64 a, .int .i64 b]] w fun e w' =>
   e = .returned (.int .i64 (flC a b g n (S * B) : Nat)) ∧ BkAt w' D p q S B n (flG a b g (S * B)) ∧ But q w w' := by
 obtain ⟨M, hM⟩ : ∃ M, M = S * B := ⟨_, rfl⟩
 have hMB : M ≤ 128 := by rw [hM]; exact Nat.mul_le_mul hS.2 hB.2
 have HF := Lib.hid fun f w u (hr : PlRow w w.heap.size u n f) => bucket_Flush (show n ≤ 1000000 by omega) hr (Nat.le_refl _) a b
 change Hid (∀ f w u (hr : PlRow w w.heap.size u n f), Calls Tryz.prog 84 #[u, .agg #[.int .i64 a, .int .i64 b]] w (Gives 162 n (flR a b f) (fun u => .tuple #[u, .int .i64 (flN a b f n : Nat)]) w)) at HF
 have HBK := Lib.hid h
 have HM := Lib.hid hM
 have HD := Lib.hid hD
 have HLE := Lib.hid fun k => flC_le a b g n k
 obtain ⟨hp, hq0, hpq, _, _, _, ⟨cap, c1, c2, s2⟩, _, _⟩ := h
 rw [← hM] at c1 s2
 unfold maxLen at c2
 have k3 : ∀ o, (w.alloc o).cell? ⟨p, 3, none⟩ = some (.slice (some ⟨q, 0, none⟩) M cap) := fun o => (World.cell?_alloc_lt _ _ _ (by show p < _; omega)).trans s2
 rw [← hM]
 have HK3 := Lib.hid k3
 clear hM hD s2
 go_enter Tryz.func37, Tryz.ntmps37
 go_wp2
 clear k3
 go_loopw [5, 17] (fun gone i wr => ∃ k : Nat, k ≤ M ∧ i = .int .i64 k ∧ gone = .int .i64 (flC a b g n k : Nat) ∧ Hid (BkAt wr D p q S B n (flG a b g k)) ∧ Hid (But q w wr) ∧ Hid (wr.cell? ⟨w.heap.size, 0, none⟩ = some (.int .i64 a) ∧ wr.cell? ⟨w.heap.size, 1, none⟩ = some (.int .i64 b) ∧ wr.cell? ⟨p, 3, none⟩ = some (.slice (some ⟨q, 0, none⟩) M cap) ∧ w.heap.size < wr.heap.size)) (fun _ i _ => M - (intOf i).toNat)
 case atStart => exact ⟨0, by omega, rfl, rfl, (HBK.out.call ((Below.refl _ _).alloc (Nat.le_refl _) _)).congr fun i _ => by unfold flG; rw [if_neg (by omega)], But.of ((Below.refl _ _).alloc (Nat.le_refl _) _) (by omega), by simp [go_sem], by simp [go_sem], HK3.out _, by simp⟩
 case round =>
  obtain ⟨k, hk, rfl, rfl, HBW, HBT, HX⟩ := hrel
  obtain ⟨x0, x1, x3, xz⟩ := HX.out
  by_cases hlt : k < M
  ·have g0 : (0 : Int) ≤ (k : Int) := Int.natCast_nonneg _
   have g1 : (k : Int) < (M : Int) := by omega
   obtain ⟨hp', hq', _, _, _, _, _, hfz, hrows⟩ := HBW.out
   obtain ⟨v0, s3, hrow⟩ := hrows k (by rw [← HM.out]; exact hlt)
   have hgk : flG a b g k k = g k := by unfold flG; rw [if_neg (by omega)]
   rw [hgk] at hrow
   have hle := HLE.out k
   have hle2 := HLE.out (k + 1)
   have hkn : (k + 1) * n ≤ 1024 := by
    have : (k + 1) * n ≤ 128 * 8 := Nat.mul_le_mul (by omega) hn
    omega
   have hc1 : flC a b g n (k + 1) = flC a b g n k + flN a b (g k) n := rfl
   have HROW := Lib.hid hrow.row
   have HNXG : Hid (∀ i, updR (flG a b g k) k (flR a b (g k)) i = flG a b g (k + 1) i) := fun i => by
    unfold updR flG
    by_cases h1 : i = k
    ·subst h1; rw [if_pos rfl, if_pos (by omega)]
    ·rw [if_neg h1]
     by_cases h2 : i < k
     ·rw [if_pos h2, if_pos (by omega)]
     ·rw [if_neg h2, if_neg (by omega)]
   have HFK := Lib.hid (HF.out (g k))
   obtain ⟨c, hc⟩ : ∃ c, c = flC a b g n k := ⟨_, rfl⟩
   obtain ⟨c', hc'⟩ : ∃ c', c' = flN a b (g k) n := ⟨_, rfl⟩
   rw [← hc, ← hc'] at hc1
   rw [← hc'] at HFK
   rw [← hc]
   have HC1 := Lib.hid hc1
   have hsum : c + c' ≤ 1024 := by omega
   obtain ⟨hadd, hadd3⟩ := add_in hsum
   clear hrow hrows hgk hle hle2 hkn hc1 hc hc'
   go_wp2_with fail
   refine Calls.mono (HFK.out _ _ HROW.out) ?_
   intro e w4 hpost
   obtain ⟨va, he, hra, hb⟩ := hpost
   subst he
   have HRA := Lib.hid hra
   obtain ⟨Av, cv, hva, _⟩ := hra
   subst hva
   have HBK4 := Lib.hid (HBW.out.call hb)
   have s4 := (hb.cell (p := ⟨q, k, none⟩) hq').trans s3
   have f4 : ∀ o, w4.frozen? ⟨q, o, none⟩ = false := HBK4.out.2.2.2.2.2.2.2.1
   have y0 := (hb.cell (p := ⟨w.heap.size, 0, none⟩) xz).trans x0
   have y1 := (hb.cell (p := ⟨w.heap.size, 1, none⟩) xz).trans x1
   have y3 := (hb.cell (p := ⟨p, 3, none⟩) hp').trans x3
   have hz4 := hb.size
   have HBT4 : Hid (But q w w4) := HBT.out.trans (But.of hb (by omega))
   have hwr := HBT.out.below.size
   have HST : Hid (∀ v, But q w4 (w4.setCell ⟨q, k, none⟩ v)) := fun v => But.set k v
   have HPUT : Hid (BkAt (w4.setCell ⟨q, k, none⟩ (.slice Av n cv)) D p q S B n (flG a b g (k + 1))) :=
    (HBK4.out.put (by rw [← HM.out]; exact hlt) (PlRowD.of_own HRA.out fun b hb => by have := HD.out b hb; omega) hq).congr fun i _ => HNXG.out i
   clear hb HRA HROW HFK s3 x0 x1 x3 HNXG HBW HBT
   go_wp2
   go_roundw
   case rel =>
    refine ⟨k + 1, by omega, by go_num, (by rw [HC1.out]; first | rfl | (simp; done)), HPUT, HBT4.out.trans (HST.out _), ?_⟩
    exact ⟨((HST.out _).cell (show w.heap.size < _ by omega) (show w.heap.size ≠ q by omega)).trans y0, ((HST.out _).cell (show w.heap.size < _ by omega) (show w.heap.size ≠ q by omega)).trans y1, ((HST.out _).cell (show p < _ by omega) hpq).trans y3, by rw [World.size_setCell]; omega⟩
   case measure => simp [intOf]; omega
  ·have hkM : M = k := by omega
   subst hkM
   go_wp2
   go_ret
   exact ⟨rfl, HBW.out, HBT.out⟩
end
section
open Go.RowKit
set_option maxHeartbeats 1600000 in
theorem model_Stand {w : World} {L A S1 Q bp : Nat} {uv : Value} {P r nv : Nat} {lv : List Vl} {st : Nat → Int × Nat} {G : Nat → Value} (h : MdAt w L A S1 Q uv (.pointer (some ⟨bp, 0, none⟩)) P r nv lv st G) (p : Nat) (hp : p < P) :
  Calls Tryz.prog 14 #[.pointer (some ⟨A, 0, none⟩), .int .i64 (p : Nat)] w (Says (.agg #[.int .i64 (st p).1, .int .u32 ((st p).2 : Nat)]) w) := by
 have hpb : portB P (p : Int) = true := by unfold portB; simp; omega
 have hip := fun w' (hb : Below w.heap.size w w') => model_isPort (h.call hb) (p : Int)
 rw [hpb] at hip
 have HIP := Lib.hid hip
 have HH := Lib.hid h
 have d1 : decide (p < P) = true := decide_eq_true hp
 have HPP := Lib.hid hp
 have hAz : A < w.heap.size := h.cells.lt
 clear h hip hpb hp
 go_enter Tryz.func14, Tryz.ntmps14
 go_wp2_with fail
 refine (HIP.out _ ((Below.refl _ _).alloc (Nat.le_refl _) _)).mono ?_
 rintro e w1 ⟨rfl, hb⟩
 have hBZ : Below w.heap.size w w1 := ((Below.refl _ _).alloc (Nat.le_refl _) _).trans (hb.mono (by simp))
 have r0 : w1.cell? ⟨w.heap.size, 0, none⟩ = some (.int .i64 0) := by
  rw [hb.cell (by show w.heap.size < _; simp)]
  simp [go_sem]
 have r1 : w1.cell? ⟨w.heap.size, 1, none⟩ = some (.int .u32 0) := by
  rw [hb.cell (by show w.heap.size < _; simp)]
  simp [go_sem]
 have rf : ∀ o, w1.frozen? ⟨w.heap.size, o, none⟩ = false := fun o => by
  rw [hb.frozen (p := ⟨w.heap.size, o, none⟩) (by show w.heap.size < _; simp)]
  simp [go_sem]
 have f0 := rf 0
 have f1 := rf 1
 have HM := Lib.hid (HH.out.call hBZ)
 have HBZ := Lib.hid hBZ
 have c1 : w1.cell? ⟨A, 1, none⟩ = some (.slice (some ⟨S1, 0, none⟩) P P) := HM.out.cells.cell (by omega)
 obtain ⟨s0, s1⟩ := thereS HM.out p HPP.out
 clear hb hBZ rf
 go_wp2
 exact bodyPost_ret (v := .agg #[.int .i64 (st p).1, .int .u32 ((st p).2 : Nat)]) (by simp [results, Tryz.results14, go_sem, r0, r1]) rfl ⟨rfl, (by (repeat' (first | (with_reducible exact HBZ.out) | (with_reducible refine Below.setCell ?_ ?_ _) | go_size)))⟩
end
end Go.Proofs.YtpcapdpglpgcbaaGreat
