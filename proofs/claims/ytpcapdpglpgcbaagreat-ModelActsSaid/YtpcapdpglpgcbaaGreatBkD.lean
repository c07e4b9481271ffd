/-
  Words and contracts that a statement's proof rests on (BkD, MoA, BkE). No statement is proved here.
-/
import Derived.Lib.Hide
import Derived.Deep.RegionHeld3
import Derived.Test.YtpcapdpglpgcbaaGreatVlanD
import Derived.Test.YtpcapdpglpgcbaaGreatKeep
import Derived.Test.YtpcapdpglpgcbaaGreatBkB
set_option linter.unusedVariables false
set_option linter.unusedSimpArgs false
namespace Go.Proofs.YtpcapdpglpgcbaaGreat
section
open Go.RowKit
def inB (x y : Int) : Bool := decide (1 ≤ x) && decide (x ≤ y)
def rightS (a b c : Int) : Bool := (inB a 8 && inB b 16) && inB c 8
set_option maxHeartbeats 800000 in
theorem book_within (x y : Int) (w : World) :
  Calls Tryz.prog 107 #[.int .i64 x, .int .i64 y] w (Says (.bool (inB x y)) w) := by
 unfold inB
 by_cases h : 1 ≤ x
 ·have d : decide (1 ≤ x) = true := by simpa using h
  rw [d]
  by_cases h2 : x ≤ y
  ·have d2 : decide (x ≤ y) = true := by simpa using h2
   rw [d2]
   clear d d2
   go_enter Tryz.func107, Tryz.ntmps107
   go_wp2
   go_ret
   exact ⟨by simp, Below.refl _ _⟩
  ·have d2 : decide (x ≤ y) = false := by simpa using h2
   rw [d2]
   clear d d2
   go_enter Tryz.func107, Tryz.ntmps107
   go_wp2
   go_ret
   exact ⟨by simp, Below.refl _ _⟩
 ·have d : decide (1 ≤ x) = false := by simpa using h
  rw [d]
  clear d
  go_enter Tryz.func107, Tryz.ntmps107
  go_wp2
  go_ret
  exact ⟨by simp, Below.refl _ _⟩
set_option maxHeartbeats 3200000 in
theorem book_Right (a b c : Int) (w : World) :
  Calls Tryz.prog 74 #[.agg #[.int .i64 a, .int .i64 b, .int .i64 c]] w (Says (.bool (rightS a b c)) w) := by
 have H1 := Lib.hid fun W => book_within a 8 W
 have H2 := Lib.hid fun W => book_within b 16 W
 have H3 := Lib.hid fun W => book_within c 8 W
 unfold rightS
 generalize inB a 8 = x at *
 generalize inB b 16 = y at *
 generalize inB c 8 = z at *
 cases x
 ·go_enter Tryz.func74, Tryz.ntmps74
  go_wp2_with fail
  refine (H1.out _).mono ?_
  rintro e w1 ⟨rfl, hb⟩
  have HB1 : Hid (Below w.heap.size w w1) := Below.trans ((Below.refl _ _).alloc (Nat.le_refl _) _) (hb.mono (by simp))
  clear hb
  go_wp2
  go_ret
  exact ⟨by simp, HB1.out⟩
 ·cases y
  ·go_enter Tryz.func74, Tryz.ntmps74
   go_wp2_with fail
   refine (H1.out _).mono ?_
   rintro e w1 ⟨rfl, hb⟩
   have HB1 : Hid (Below w.heap.size w w1) := Below.trans ((Below.refl _ _).alloc (Nat.le_refl _) _) (hb.mono (by simp))
   have k1 : w1.cell? ⟨w.heap.size, 1, none⟩ = some (.int .i64 b) := by rw [(bcell hb).1 _ _ (by simp)]; simp [go_sem]
   clear hb
   go_wp2_with fail
   refine (H2.out _).mono ?_
   rintro e w2 ⟨rfl, hb⟩
   have HB2 : Hid (Below w.heap.size w w2) := HB1.out.trans (hb.mono HB1.out.size)
   clear hb
   go_wp2
   go_ret
   exact ⟨by simp, HB2.out⟩
  ·go_enter Tryz.func74, Tryz.ntmps74
   go_wp2_with fail
   refine (H1.out _).mono ?_
   rintro e w1 ⟨rfl, hb⟩
   have HB1 : Hid (Below w.heap.size w w1) := Below.trans ((Below.refl _ _).alloc (Nat.le_refl _) _) (hb.mono (by simp))
   have k1 : w1.cell? ⟨w.heap.size, 1, none⟩ = some (.int .i64 b) := by rw [(bcell hb).1 _ _ (by simp)]; simp [go_sem]
   have k2 : w1.cell? ⟨w.heap.size, 2, none⟩ = some (.int .i64 c) := by rw [(bcell hb).1 _ _ (by simp)]; simp [go_sem]
   have hz : w.heap.size + 1 ≤ w1.heap.size := by have := hb.size; simpa using this
   clear hb
   go_wp2_with fail
   refine (H2.out _).mono ?_
   rintro e w2 ⟨rfl, hb⟩
   have HB2 : Hid (Below w.heap.size w w2) := HB1.out.trans (hb.mono HB1.out.size)
   have k2 := ((bcell hb).1 w.heap.size 2 (by omega)).trans k2
   clear hb
   go_wp2_with fail
   refine (H3.out _).mono ?_
   rintro e w3 ⟨rfl, hb⟩
   have HB3 : Hid (Below w.heap.size w w3) := HB2.out.trans (hb.mono HB2.out.size)
   clear hb
   go_wp2
   go_ret
   exact ⟨by simp, HB3.out⟩
end
section
open Go.RowKit
theorem model_within (n most : Int) (w : World) : Calls Tryz.prog 75 #[.int .i64 n, .int .i64 most] w (Says (.bool (withinI n most)) w) := by
 unfold withinI
 by_cases h1 : 1 ≤ n
 ·have d1 : decide (n ≥ 1) = true := by simp; omega
  have d2 : decide (1 ≤ n) = true := by simp; omega
  go_enter Tryz.func75, Tryz.ntmps75
  go_wp2
  go_ret
  exact ⟨by first | rfl | (simp; done) | simp [d2], Below.refl _ _⟩
 ·have d1 : decide (n ≥ 1) = false := by simp; omega
  have d2 : decide (1 ≤ n) = false := by simp; omega
  go_enter Tryz.func75, Tryz.ntmps75
  go_wp2
  go_ret
  exact ⟨by first | rfl | (simp; done) | simp [d2], Below.refl _ _⟩
theorem model_isWrong (p a : Int) (w : World) : Calls Tryz.prog 73 #[.agg #[.int .i64 p, .int .i64 a]] w (Says (.bool (!(ruleB p a))) w) := by
 have HR := Lib.hid fun W => vlan_Right p a W
 obtain ⟨z, hz⟩ : ∃ z, z = ruleB p a := ⟨_, rfl⟩
 rw [← hz] at HR ⊢
 clear hz
 go_enter Tryz.func73, Tryz.ntmps73
 go_wp2_with fail
 refine (HR.out _).mono ?_
 rintro e w1 ⟨rfl, hb⟩
 go_wp2
 go_ret
 exact ⟨rfl, ((Below.refl _ _).alloc (Nat.le_refl _) _).trans (hb.mono (by simp))⟩
set_option maxRecDepth 20000 in
set_option maxHeartbeats 1600000 in
theorem index_rules {w : World} {B n m : Nat} {v : Value} {l : List Rl} (hv : Sl w B 2 v n (rlc l)) (hB : B ≤ w.heap.size) (hf : FirstBad l n m) :
  Calls Tryz.prog 105 #[v, .func (.func 73) #[] #[]] w (Says (.int .i64 (if m < n then (m : Int) else -1)) w) := by
 obtain ⟨A, cap, rfl, hcap, hmx⟩ := hv.form
 unfold maxLen at hmx
 have HV := Lib.hid hv
 have HF := Lib.hid hf
 obtain ⟨X, hX⟩ : ∃ X : Int, X = if m < n then (m : Int) else -1 := ⟨_, rfl⟩
 rw [← hX]
 have HX := Lib.hid hX
 have HW := Lib.hid fun p a W => model_isWrong p a W
 have hmn := hf.1
 clear hv hf hX
 go_enter Tryz.func105, Tryz.ntmps105
 go_wp2
 go_loopw [8] (fun i wr => ∃ k : Nat, k ≤ m ∧ i = .int .i64 k ∧ Hid (Below w.heap.size w wr)) (fun i _ => n - (intOf i).toNat)
 case atStart => exact ⟨0, by omega, rfl, Below.refl _ _⟩
 case round =>
  obtain ⟨k, hk, rfl, HB⟩ := hrel
  by_cases hlt : k < n
  ·obtain ⟨b, off, cap', e, hc1, hc2, hb, hlen, hcell⟩ := HV.out.rlAt (by omega)
   cases e
   obtain ⟨c0, c1⟩ := hcell k hlt
   have k0 := (HB.out.cell (p := ⟨b, off + k * 2, none⟩) (by show b < _; omega)).trans c0
   have k1 := (HB.out.cell (p := ⟨b, off + k * 2 + 1, none⟩) (by show b < _; omega)).trans c1
   have HK := HW.out (l.getD k rl0).pv (l.getD k rl0).ac
   have hbad : (!(ruleB (l.getD k rl0).pv (l.getD k rl0).ac)) = badR l k := rfl
   rw [hbad] at HK
   clear hcell c0 c1 hbad
   generalize (l.getD k rl0).pv = P1 at *
   generalize (l.getD k rl0).ac = P2 at *
   by_cases hkm : k = m
   ·subst hkm
    rw [HF.out.2.2 hlt] at HK
    have HK := Lib.hid HK
    have hx : X = (k : Int) := by rw [HX.out, if_pos hlt]
    go_wp2_with fail
    refine (HK.out _).mono ?_
    rintro e w1 ⟨rfl, hb1⟩
    go_wp2
    go_ret
    exact ⟨by rw [hx]; rfl, HB.out.trans (hb1.mono HB.out.size)⟩
   ·rw [HF.out.2.1 k (by omega)] at HK
    have HK := Lib.hid HK
    go_wp2_with fail
    refine (HK.out _).mono ?_
    rintro e w1 ⟨rfl, hb1⟩
    have HB1 := Lib.hid (HB.out.trans (hb1.mono HB.out.size))
    clear hb1
    go_wp2
    go_roundw
    case rel => exact ⟨k + 1, by omega, by go_num, HB1⟩
    case measure => simp [intOf]; omega
  ·have hkn : k = n := by omega
   have hx : X = -1 := by rw [HX.out, if_neg (by omega)]
   go_wp2
   go_ret
   exact ⟨by rw [hx]; rfl, HB.out⟩
theorem contains_rules {w : World} {B n m : Nat} {v : Value} {l : List Rl} (hv : Sl w B 2 v n (rlc l)) (hB : B ≤ w.heap.size) (hf : FirstBad l n m) :
  Calls Tryz.prog 72 #[v, .func (.func 73) #[] #[]] w (Says (.bool (decide (m < n))) w) := by
 have HI := Lib.hid (index_rules hv hB hf)
 obtain ⟨A, cap, rfl, _, _⟩ := hv.form
 obtain ⟨X, hX⟩ : ∃ X : Int, X = if m < n then (m : Int) else -1 := ⟨_, rfl⟩
 rw [← hX] at HI
 have hd : decide (X ≥ 0) = decide (m < n) := by
  by_cases h : m < n
  ·rw [hX, if_pos h]; simp [h]
  ·rw [hX, if_neg h]; simp [h]
 have hd' : decide (0 ≤ X) = decide (m < n) := hd
 generalize decide (m < n) = z at *
 clear hX hv hf
 go_enter Tryz.func72, Tryz.ntmps72
 go_wp2_with fail
 refine (HI.out).mono ?_
 rintro e w1 ⟨rfl, hb⟩
 go_wp2
 go_ret
 exact ⟨by first | rfl | (simp [hd']; done), hb⟩
end
section
open Go.RowKit
theorem stRows : ST Tryz.prog 121 133 (.slice none 0 0) 1 24 := ST.mk Tryz.underlying121 (by kernel_rfl) rfl (by omega) (by omega)
theorem rowIs_nils {w : World} {M : Nat} {e : TypeId} : (w.alloc (.cells (mkC (.slice none 0 0) 1 M) e)).rowIs w.heap.size e M (fun _ => .slice none 0 0) := by
 have h := World.rowIs_made w (.slice none 0 0) M e
 unfold mkC
 rw [Nat.mul_one]
 exact h
theorem own_nils {w : World} {M : Nat} {T : TypeId} (hM : M ≤ maxLen) : RowOf (w.alloc (.cells (mkC (.agg #[.bool false, .int .i64 0, .int .u64 0, .int .i64 0, .bool false, .int .u32 0]) 6 M) T)) T w.heap.size (.slice (some ⟨w.heap.size, 0, none⟩) M M) M (fun _ => pl0) :=
 ⟨_, M, rfl, Nat.le_refl _, hM, fun _ => ⟨w.heap.size, _, rfl, Nat.le_refl _, rowIs_mk6, fun _ _ => rfl⟩⟩
set_option maxRecDepth 20000 in
set_option maxHeartbeats 12800000 in
theorem book_New (S B n : Nat) (hS : 1 ≤ S ∧ S ≤ 8) (hB : 1 ≤ B ∧ B ≤ 16) (hn : 1 ≤ n ∧ n ≤ 8) (w : World) :
  Calls Tryz.prog 24 #[.agg #[.int .i64 (S : Nat), .int .i64 (B : Nat), .int .i64 (n : Nat)]] w fun e w' => ∃ p q, e = .returned (.tuple #[.pointer (some ⟨p, 0, none⟩), .int .i64 0]) ∧
   BkAt w' (fun b => b ≤ p) p q S B n (fun _ _ => pl0) ∧ w.heap.size ≤ p ∧ w.heap.size ≤ q ∧ q < p ∧ Below w.heap.size w w' := by
 obtain ⟨M, hM⟩ : ∃ M, M = S * B := ⟨_, rfl⟩
 have hMB : M ≤ 128 := by rw [hM]; exact Nat.mul_le_mul hS.2 hB.2
 have hM1 : 1 ≤ M := by rw [hM]; exact Nat.mul_pos hS.1 hB.1
 have hmul : (S : Int) * (B : Int) = (M : Int) := by rw [hM]; simp
 have hmw : wrap64 ((S : Int) * (B : Int)) = (M : Int) := by rw [hmul]; exact IntWalk.wrap64_in _ (by omega)
 have hmw3 : IntKind.i64.wrap ((S : Int) * (B : Int)) = (M : Int) := by rw [hmul]; exact IntWalk.i64_in _ (by omega)
 have hr := fun W => book_Right (S : Int) (B : Int) (n : Int) W
 have hy : rightS (S : Int) (B : Int) (n : Int) = true := by unfold rightS inB; simp; omega
 rw [hy] at hr
 have HR := Lib.hid hr
 have HM := Lib.hid hM
 have hk1 := fun W => run_mkFull (P := Tryz.prog) W stRows M (by omega)
 have hk2 := fun W => run_mkFull (P := Tryz.prog) W stPlaces n (by omega)
 clear hr hy hM hmul
 go_enter Tryz.func24, Tryz.ntmps24
 go_wp2_with fail
 refine (HR.out _).mono ?_
 rintro e w1 ⟨rfl, hb⟩
 have HB1 : Hid (Below w.heap.size w w1) := Below.trans ((Below.refl _ _).alloc (Nat.le_refl _) _) (hb.mono (by simp))
 have s0 : w1.cell? ⟨w.heap.size, 0, none⟩ = some (.int .i64 (S : Nat)) := by rw [(bcell hb).1 _ _ (by simp)]; simp [go_sem]
 have s1 : w1.cell? ⟨w.heap.size, 1, none⟩ = some (.int .i64 (B : Nat)) := by rw [(bcell hb).1 _ _ (by simp)]; simp [go_sem]
 have s2 : w1.cell? ⟨w.heap.size, 2, none⟩ = some (.int .i64 (n : Nat)) := by rw [(bcell hb).1 _ _ (by simp)]; simp [go_sem]
 have hz1 : w.heap.size + 1 ≤ w1.heap.size := by have := hb.size; simpa using this
 clear hb HR
 go_wp2_with fail
 refine wp_region_held_drew (S := fun w' => w'.cell? ⟨w.heap.size, 0, none⟩ = some (.int .i64 (S : Nat)) ∧ w'.cell? ⟨w.heap.size, 1, none⟩ = some (.int .i64 (B : Nat)) ∧ w'.cell? ⟨w.heap.size, 2, none⟩ = some (.int .i64 (n : Nat))) (by kernel_rfl) ?_ (fun hHeld => ?_)
 ·exact ⟨s0, s1, s2⟩
 refine tkR 0 rfl ?_
 refine tkR 1 rfl ?_
 refine tkR 2 rfl ?_
 refine tkR 3 rfl ?_
 refine tkR 4 rfl ?_
 refine tkR 5 rfl ?_
 refine clR 6 rfl fun K hK => ?_
 go_simp
 refine hK.out _ _ ?_ (fun hHeld => ?_)
 ·(try dsimp only)
  obtain ⟨q0, q1, q2⟩ := hHeld
  exact ⟨(World.cell?_alloc_lt _ _ _ (by show w.heap.size < w1.heap.size; omega)).trans q0, (World.cell?_alloc_lt _ _ _ (by show w.heap.size < w1.heap.size; omega)).trans q1, (World.cell?_alloc_lt _ _ _ (by show w.heap.size < w1.heap.size; omega)).trans q2⟩
 clear hK K
 refine tkR 7 rfl ?_
 refine clR 8 rfl fun K hK => ?_
 go_simp
 refine hK.out _ _ ?_ (fun hHeld => ?_)
 ·(try dsimp only)
  obtain ⟨q0, q1, q2⟩ := hHeld
  exact ⟨(World.cell?_alloc_lt _ _ _ (by show w.heap.size < _; simp; omega)).trans q0, (World.cell?_alloc_lt _ _ _ (by show w.heap.size < _; simp; omega)).trans q1, (World.cell?_alloc_lt _ _ _ (by show w.heap.size < _; simp; omega)).trans q2⟩
 clear hK K
 refine tkR 9 rfl ?_
 refine wpAnyH_done (by kernel_rfl) ?_ _
 obtain ⟨q, hq⟩ : ∃ q, q = w1.heap.size := ⟨_, rfl⟩
 obtain ⟨p, hp⟩ : ∃ p, p = w1.heap.size + 1 := ⟨_, rfl⟩
 obtain ⟨w2, hw2⟩ : ∃ w2, w2 = ((w1.alloc (.cells (mkC (.slice none 0 0) 1 M) 133)).alloc (.cells #[.int .i64 (S : Nat), .int .i64 (B : Nat), .int .i64 (n : Nat), .slice (some ⟨q, 0, none⟩) M M] 156)).drew := ⟨_, rfl⟩
 have HQ0 : Hid (w2.rowIs q 133 M (fun _ => .slice none 0 0)) := by rw [hw2, hq]; exact (rowIs_nils.alloc _).drew
 have HP0 : Hid (w2.cell? ⟨p, 0, none⟩ = some (.int .i64 (S : Nat)) ∧ w2.cell? ⟨p, 1, none⟩ = some (.int .i64 (B : Nat)) ∧ w2.cell? ⟨p, 2, none⟩ = some (.int .i64 (n : Nat)) ∧ w2.cell? ⟨p, 3, none⟩ = some (.slice (some ⟨q, 0, none⟩) M M) ∧ w2.cell? ⟨w.heap.size, 2, none⟩ = some (.int .i64 (n : Nat))) := by
  rw [hw2, hp]
  refine ⟨by simp [go_sem], by simp [go_sem], by simp [go_sem], by simp [go_sem], ?_⟩
  exact (World.cell?_alloc_lt _ _ _ (by show w.heap.size < _; simp; omega)).trans ((World.cell?_alloc_lt _ _ _ (by show w.heap.size < _; omega)).trans s2)
 have HB2 : Hid (Below w.heap.size w w2) := by rw [hw2]; exact ((HB1.out.alloc (by omega) _).alloc (by simp; omega) _).drew
 have hp2 : p < w2.heap.size := by rw [hw2, hp]; simp
 have hpq : q + 1 = p := by rw [hp, hq]
 have hqw : w.heap.size < q := by rw [hq]; omega
 rw [← hp, ← hq, ← hw2]
 clear hw2 hq hp hHeld s0 s1 s2 hk1 hmw hmw3 HB1 hz1
 obtain ⟨t0, t1, t2, t3, t4⟩ := HP0.out
 go_wp2
 clear t0 t1 t2 t3 t4
 go_loopw [23] (fun i wr => ∃ (k : Nat) (G : Nat → Value), k ≤ M ∧ i = .int .i64 k ∧ p < wr.heap.size ∧ Hid (wr.rowIs q 133 M G) ∧ Hid (∀ i, i < k → PlRowD wr (fun b => b ≤ p) (G i) n (fun _ => pl0)) ∧ Hid (wr.cell? ⟨p, 0, none⟩ = some (.int .i64 (S : Nat)) ∧ wr.cell? ⟨p, 1, none⟩ = some (.int .i64 (B : Nat)) ∧ wr.cell? ⟨p, 2, none⟩ = some (.int .i64 (n : Nat)) ∧ wr.cell? ⟨p, 3, none⟩ = some (.slice (some ⟨q, 0, none⟩) M M) ∧ wr.cell? ⟨w.heap.size, 2, none⟩ = some (.int .i64 (n : Nat))) ∧ Hid (Below w.heap.size w wr)) (fun i _ => M - (intOf i).toNat)
 case atStart => exact ⟨0, _, by omega, rfl, hp2, HQ0, fun i hi => absurd hi (by omega), HP0, HB2⟩
 case round =>
  obtain ⟨k, G, hk, rfl, hpz, HQ, HR, HP, HB⟩ := hrel
  obtain ⟨t0, t1, t2, t3, t4⟩ := HP.out
  by_cases hlt : k < M
  ·have g0 : (0 : Int) ≤ (k : Int) := Int.natCast_nonneg _
   have g1 : (k : Int) < (M : Int) := by omega
   go_wp2_with fail
   refine wp_region_held_drew (S := fun w' => w'.cell? ⟨p, 3, none⟩ = some (.slice (some ⟨q, 0, none⟩) M M) ∧ w'.cell? ⟨w.heap.size, 2, none⟩ = some (.int .i64 (n : Nat))) (by kernel_rfl) ?_ (fun hHeld => ?_)
   ·exact ⟨t3, t4⟩
   obtain ⟨v0, hv0⟩ : ∃ w', w' = wr.drew := ⟨_, rfl⟩
   have hvz : v0.heap.size = wr.heap.size := by rw [hv0]; rfl
   have hvb : Below wr.heap.size wr v0 := by rw [hv0]; exact (Below.refl _ _).drew
   rw [← hv0] at hHeld ⊢
   clear hv0
   obtain ⟨gb, hgb⟩ : ∃ g', g' = wr.heap.size := ⟨_, rfl⟩
   obtain ⟨v1, hv1⟩ : ∃ w', w' = v0.alloc (.cells (mkC (.agg #[.bool false, .int .i64 0, .int .u64 0, .int .i64 0, .bool false, .int .u32 0]) 6 n) 162) := ⟨_, rfl⟩
   have HO : Hid (RowOf v1 162 wr.heap.size (.slice (some ⟨gb, 0, none⟩) n n) n (fun _ => pl0)) := by rw [hv1, hgb, ← hvz]; exact own_nils (by unfold maxLen; omega)
   have hb1 : Below wr.heap.size wr v1 := by rw [hv1]; exact hvb.alloc (by omega) _
   have HQ1 : Hid (v1.rowIs q 133 M G) := HQ.out.of_block (hb1.block q (by omega))
   have y1 : (v0.alloc (.cells (mkC (.agg #[.bool false, .int .i64 0, .int .u64 0, .int .i64 0, .bool false, .int .u32 0]) 6 n) 162)).cell? ⟨q, k, none⟩ = some (G k) := by rw [← hv1]; exact HQ1.out.cell hlt
   have y2 : ∀ i, (v0.alloc (.cells (mkC (.agg #[.bool false, .int .i64 0, .int .u64 0, .int .i64 0, .bool false, .int .u32 0]) 6 n) 162)).frozen? ⟨q, i, none⟩ = false := fun i => by rw [← hv1]; exact HQ1.out.frozen i
   refine tkR 0 rfl ?_
   refine tkR 1 rfl ?_
   refine tkR 2 rfl ?_
   refine tkR 3 rfl ?_
   refine tkR 4 rfl ?_
   refine tkR 5 rfl ?_
   refine tkR 6 rfl ?_
   refine clR 7 rfl fun K hK => ?_
   go_simp
   refine hK.out _ _ ?_ (fun hHeld => ?_)
   ·(try dsimp only)
    obtain ⟨q0, q1⟩ := hHeld
    exact ⟨(World.cell?_alloc_lt _ _ _ (by show p < v0.heap.size; omega)).trans q0, (World.cell?_alloc_lt _ _ _ (by show w.heap.size < v0.heap.size; omega)).trans q1⟩
   clear hK K
   refine tkR 8 rfl ?_
   refine clR 9 rfl fun K hK => ?_
   go_simp
   refine hK.out _ _ ?_ (fun hHeld => ?_)
   ·(try dsimp only)
    obtain ⟨q0, q1⟩ := hHeld
    have hz1 := hb1.size
    exact ⟨((But.set k _).cell (show p < (v0.alloc _).heap.size by rw [World.size_alloc]; omega) (show p ≠ q by omega)).trans q0, ((But.set k _).cell (show w.heap.size < (v0.alloc _).heap.size by rw [World.size_alloc]; omega) (show w.heap.size ≠ q by omega)).trans q1⟩
   clear hK K
   (try simp only [Act.put, sqA, sqB, sqC])
   refine wpAnyH_done (by kernel_rfl) ?_ _
   obtain ⟨v2, hv2⟩ : ∃ w', w' = v1.setCell ⟨q, k, none⟩ (.slice (some ⟨gb, 0, none⟩) n n) := ⟨_, rfl⟩
   have hbut : But q wr v2 := by rw [hv2]; exact (But.of hb1 (by omega)).trans (But.set k _)
   have HQ2 : Hid (v2.rowIs q 133 M (fun j => if j = k then .slice (some ⟨gb, 0, none⟩) n n else G j)) := by rw [hv2]; exact HQ1.out.set k _
   have HR2 : Hid (∀ i, i < k + 1 → PlRowD v2 (fun b => b ≤ p) ((fun j => if j = k then .slice (some ⟨gb, 0, none⟩) n n else G j) i) n (fun _ => pl0)) := fun i hi => by
    by_cases hik : i = k
    ·show PlRowD v2 _ (if i = k then _ else _) n _
     rw [if_pos hik, hv2]
     exact (PlRowD.of_own (D := fun b => b ≤ p) HO.out (fun b hb => by show b < wr.heap.size; have : b ≤ p := hb; omega)).but (But.set k _) (by show q ≤ p; omega)
    ·show PlRowD v2 _ (if i = k then _ else _) n _
     rw [if_neg hik]
     exact (HR.out i (by omega)).but hbut (by show q ≤ p; omega)
   have c2 := hbut.below.size
   have HP2 : Hid (v2.cell? ⟨p, 0, none⟩ = some (.int .i64 (S : Nat)) ∧ v2.cell? ⟨p, 1, none⟩ = some (.int .i64 (B : Nat)) ∧ v2.cell? ⟨p, 2, none⟩ = some (.int .i64 (n : Nat)) ∧ v2.cell? ⟨p, 3, none⟩ = some (.slice (some ⟨q, 0, none⟩) M M) ∧ v2.cell? ⟨w.heap.size, 2, none⟩ = some (.int .i64 (n : Nat))) :=
    ⟨(hbut.cell (show p < _ by omega) (show p ≠ q by omega)).trans t0, (hbut.cell (show p < _ by omega) (show p ≠ q by omega)).trans t1, (hbut.cell (show p < _ by omega) (show p ≠ q by omega)).trans t2, (hbut.cell (show p < _ by omega) (show p ≠ q by omega)).trans t3, (hbut.cell (show w.heap.size < _ by omega) (show w.heap.size ≠ q by omega)).trans t4⟩
   have HB3 : Hid (Below w.heap.size w v2) := HB.out.trans (hbut.below.mono (by omega))
   try rw [← hgb]
   try rw [← hv1]
   rw [← hv2]
   have hpz2 : p < v2.heap.size := by omega
   clear hv1 hv2 hgb hHeld y1 y2 HO HQ1 HQ HR HP HB hbut hb1 hvb hvz t0 t1 t2 t3 t4
   go_wp2
   go_roundw
   case rel => exact ⟨k + 1, _, by omega, by go_num, hpz2, HQ2, HR2, HP2, HB3⟩
   case measure => simp [intOf]; omega
  ·have hkM : M = k := by omega
   subst hkM
   go_wp2
   refine bodyPost_ret (v := .tuple #[.pointer (some ⟨p, 0, none⟩), .int .i64 0]) (by simp [results, Tryz.results24, go_sem]) rfl ⟨p, q, rfl, ?_, by omega, by omega, by omega, HB.out⟩
   have hcap : M ≤ maxLen := by unfold maxLen; omega
   refine ⟨hpz, by omega, by omega, t0, t1, t2, ⟨M, by rw [← HM.out]; exact Nat.le_refl _, hcap, ?_⟩, HQ.out.frozen, fun i hi => ?_⟩
   ·rw [← HM.out]; exact t3
   ·rw [← HM.out] at hi
    exact ⟨_, HQ.out.cell hi, HR.out i hi⟩
end
end Go.Proofs.YtpcapdpglpgcbaaGreat
