/-
  A port's epoch is how often it was set, its state the one that was set last: for every plan, every row of Ops, every port. No condition.
-/
import Derived.Test.YtcnfilbmmlolmaaRows
import Derived.Test.YtcnfilbmmlolmaaOpenOp
import Derived.Test.YtcnfilbmmlolmaaMoY
import Derived.Test.YtcnfilbmmlolmaaMoJ
import Derived.Test.YtcnfilbmmlolmaaMoK
import Derived.Test.YtcnfilbmmlolmaaMoL
import Derived.WalkKit
import Derived.ProofKit
import Derived.OpenShut
namespace Go.Proofs.Ytcnfilbmmlolmaa.modelStands
open Go.ChangeShapes Go.WideShapes Go.ChangeAt Go.RowKit
open Go.ChangeMaps (open_string)
set_option linter.unusedVariables false

theorem own : ownKnob Try.prog.godebug = none := by kernel_rfl
theorem StF_at {P q : Nat} (hq : q < P) (st : Nat → Int × Nat) (kd po sx : Int) : StF P st kd po sx q = if kd = 8 ∧ po = (q : Int) ∧ rightSt sx = true then (sx, ((st q).2 + 1) % 4294967296) else st q := by
  unfold StF
  by_cases h : kd = 8 ∧ po = (q : Int) ∧ rightSt sx = true
  · rw [if_pos h, if_pos ⟨h.1, by rw [h.2.1]; exact portB_in hq, h.2.2⟩, h.2.1, Int.toNat_natCast]
    exact if_pos rfl
  · rw [if_neg h]
    by_cases h2 : kd = 8 ∧ portB P po = true ∧ rightSt sx = true
    · rw [if_pos h2]
      obtain ⟨p, rfl, hp⟩ := port_nat h2.2.1
      rw [Int.toNat_natCast]
      exact if_neg (fun e => h ⟨h2.1, by rw [e], h2.2.2⟩)
    · rw [if_neg h2]

set_option maxRecDepth 20000 in
set_option maxHeartbeats 6400000 in
theorem walk (W : World) (P0 : Int) (vr0 vv0 : Value) (a0 b0 c0 T0 R0 : Int) (nm0 sh0 : Nat) (lr0 : List Rl) (lv0 : List Vl) (hr0 : Sl W W.heap.size 2 vr0 lr0.length (rlc lr0)) (hv0 : Sl W W.heap.size 3 vv0 lv0.length (vlc lv0)) (ho0 : ∀ x ∈ lv0, x.ok) (a1 : Value) (b1 : Ops17 W a1) (a2 : Int) (b2 : -9223372036854775808 ≤ a2 ∧ a2 ≤ 9223372036854775807) :
    Calls Try.prog 6 #[planV P0 vr0 vv0 a0 b0 c0 T0 R0 nm0 sh0, a1, .int .i64 a2] W (Says (.bool true) W) := by
  obtain ⟨Ao, no, co, rfl, hno, hcom, hops⟩ := b1
  have HOPS := Lib.hid hops
  clear hops
  obtain ⟨Ar, cr, rfl, hcr, hcm⟩ := hr0.form
  obtain ⟨Av, cv, rfl, hcv, hcw⟩ := hv0.form
  obtain ⟨P, hP⟩ : ∃ x, x = 2 + fx 7 P0 := ⟨_, rfl⟩
  obtain ⟨S, hS⟩ : ∃ x, x = 1 + fx 8 a0 := ⟨_, rfl⟩
  obtain ⟨B, hB⟩ : ∃ x, x = 1 + fx 16 b0 := ⟨_, rfl⟩
  obtain ⟨n, hn⟩ : ∃ x, x = 1 + fx 8 c0 := ⟨_, rfl⟩
  obtain ⟨T, hT⟩ : ∃ x, x = 1 + fx 8 T0 := ⟨_, rfl⟩
  obtain ⟨Rg, hG⟩ : ∃ x, x = 1 + fx 64 R0 := ⟨_, rfl⟩
  have hfix := fun w' (hb : Below W.heap.size W w') => ref17_Fix (hr0.below hb) (hv0.below hb) ho0 hb.size P0 a0 b0 c0 T0 R0 nm0 sh0 P S B n T Rg hP hT hG hS hB hn
  unfold planV at hfix ⊢
  have HFX := Lib.hid hfix
  have HN := Lib.hid (And.intro hP (And.intro hS (And.intro hB (And.intro hn (And.intro hT hG)))))
  clear hfix hr0 hv0 ho0 hP hS hB hn hT hG hcr hcm hcv hcw
  go_enter Try.func6, Try.ntmps6
  go_upto_region 2 with (first
    | (go_at_call 22; (with_reducible refine Calls.mono (HFX.out _ ((Below.refl _ _).alloc (Nat.le_refl _) _)) ?_); rintro e wa ⟨ur, uw, rfl, h1, h2, hba⟩; (obtain ⟨Ax, cx, hx, _, _⟩ := (Sl.of_own h1).form); (obtain ⟨Ay, cy, hy, _, _⟩ := (Sl.of_own h2).form); subst hx; subst hy; (have H1 := Lib.hid h1); (have H2 := Lib.hid h2); (have HBA := Lib.hid hba); (have HTH : Hid (wa.there W.heap.size 0 10) := there_below (there_of (cs := #[.int .i64 P0, .slice Ar lr0.length cr, .slice Av lv0.length cv, .int .i64 a0, .int .i64 b0, .int .i64 c0, .int .i64 T0, .int .i64 R0, .int .u32 (nm0 : Int), .int .u32 (sh0 : Int)]) (heap_self W _ 28)) hba (by simp)); clear h1 h2 hba)
    | (refine wpList_store (by rfl) 28 _ _ (by rfl) W.heap.size 0 #[.int .i64 (P : Nat), .slice Ax P cx, .slice Ay (min lv0.length 8) cy, .int .i64 (S : Nat), .int .i64 (B : Nat), .int .i64 (n : Nat), .int .i64 (T : Nat), .int .i64 (Rg : Nat), .int .u32 (nm0 : Int), .int .u32 (sh0 : Int)] (by rfl) (by rfl) HTH.out (by kernel_rfl) (by simp [Value.oneCell']) ?_; intro wz hst; (have hWz : W.heap.size < wa.heap.size := by have := HBA.out.size; simp at this; omega); (have HBX : Hid (∀ w', Below wz.heap.size wz w' → w'.cell? ⟨W.heap.size, 0, none⟩ = some (.int .i64 (P : Nat)) ∧ w'.cell? ⟨W.heap.size, 1, none⟩ = some (.slice Ax P cx) ∧ w'.cell? ⟨W.heap.size, 2, none⟩ = some (.slice Ay (min lv0.length 8) cy) ∧ w'.cell? ⟨W.heap.size, 3, none⟩ = some (.int .i64 (S : Nat)) ∧ w'.cell? ⟨W.heap.size, 4, none⟩ = some (.int .i64 (B : Nat)) ∧ w'.cell? ⟨W.heap.size, 5, none⟩ = some (.int .i64 (n : Nat)) ∧ w'.cell? ⟨W.heap.size, 6, none⟩ = some (.int .i64 (T : Nat)) ∧ w'.cell? ⟨W.heap.size, 7, none⟩ = some (.int .i64 (Rg : Nat)) ∧ w'.cell? ⟨W.heap.size, 8, none⟩ = some (.int .u32 (nm0 : Int)) ∧ w'.cell? ⟨W.heap.size, 9, none⟩ = some (.int .u32 (sh0 : Int))) := fun w' hb => ⟨(hb.cell (p := ⟨W.heap.size, 0, none⟩) (by show W.heap.size < _; rw [hst.size]; omega)).trans (hst.cells 0 _ rfl), (hb.cell (p := ⟨W.heap.size, 1, none⟩) (by show W.heap.size < _; rw [hst.size]; omega)).trans (hst.cells 1 _ rfl), (hb.cell (p := ⟨W.heap.size, 2, none⟩) (by show W.heap.size < _; rw [hst.size]; omega)).trans (hst.cells 2 _ rfl), (hb.cell (p := ⟨W.heap.size, 3, none⟩) (by show W.heap.size < _; rw [hst.size]; omega)).trans (hst.cells 3 _ rfl), (hb.cell (p := ⟨W.heap.size, 4, none⟩) (by show W.heap.size < _; rw [hst.size]; omega)).trans (hst.cells 4 _ rfl), (hb.cell (p := ⟨W.heap.size, 5, none⟩) (by show W.heap.size < _; rw [hst.size]; omega)).trans (hst.cells 5 _ rfl), (hb.cell (p := ⟨W.heap.size, 6, none⟩) (by show W.heap.size < _; rw [hst.size]; omega)).trans (hst.cells 6 _ rfl), (hb.cell (p := ⟨W.heap.size, 7, none⟩) (by show W.heap.size < _; rw [hst.size]; omega)).trans (hst.cells 7 _ rfl), (hb.cell (p := ⟨W.heap.size, 8, none⟩) (by show W.heap.size < _; rw [hst.size]; omega)).trans (hst.cells 8 _ rfl), (hb.cell (p := ⟨W.heap.size, 9, none⟩) (by show W.heap.size < _; rw [hst.size]; omega)).trans (hst.cells 9 _ rfl)⟩); (have HLZ : Hid (Below W.heap.size W wz) := (((Below.refl _ _).alloc (Nat.le_refl _) _).trans (HBA.out.mono (by simp))).trans (hst.below _ (Nat.le_refl _))); (have HR := Lib.hid (Sl.of_own (own_stored H1.out hst (fun e => by have := (H1.out.lt _ e).1; simp at this; omega)))); (have HV := Lib.hid (Sl.of_own (own_stored H2.out hst (fun e => by have := (H2.out.lt _ e).1; simp at this; omega)))); clear hst H1 H2 HBA HTH))
  have HFG := Lib.hid (fix_good lr0 lv0 P0 a0 b0 c0 T0 R0 P S B n T Rg lv0.length HN.out.1 HN.out.2.2.2.2.1 HN.out.2.2.2.2.2 HN.out.2.1 HN.out.2.2.1 HN.out.2.2.2.1)
  have HBD : Hid ((2 ≤ P ∧ P ≤ 8) ∧ (1 ≤ S ∧ S ≤ 8) ∧ (1 ≤ B ∧ B ≤ 16) ∧ (1 ≤ n ∧ n ≤ 8) ∧ (1 ≤ Rg ∧ Rg ≤ 64)) := by
    obtain ⟨e1, e2, e3, e4, e5, e6⟩ := HN.out
    have k1 := fx_lt (k := 7) (by omega) P0
    have k2 := fx_lt (k := 8) (by omega) a0
    have k3 := fx_lt (k := 16) (by omega) b0
    have k4 := fx_lt (k := 8) (by omega) c0
    have k5 := fx_lt (k := 64) (by omega) R0
    exact ⟨by omega, by omega, by omega, by omega, by omega⟩
  have hto := fun w' (hb : Below wz.heap.size wz w') => law17_To (HR.out.below hb) (HV.out.below hb) hb.size (by omega) (by have := HBD.out.1.2; omega) (P : Nat) (S : Nat) (B : Nat) (n : Nat) (T : Nat) (Rg : Nat) nm0 sh0
  have hnw := fun (w' : World) (Bo : Nat) (vr vv : Value) (h1 : Sl w' Bo 2 vr P (rlc (fixRs lr0 P))) (h2 : Sl w' Bo 3 vv (min lv0.length 8) (vlc (fixVs (allN P) lv0 (min lv0.length 8)))) (hB : Bo ≤ w'.heap.size) => model_New h1 h2 (fixVs_ok _ _ (allN_lt _) _ (by omega)) hB (fixRs_first lr0 P) P S B n Rg T nm0 sh0 (by have := HBD.out.1; omega) HBD.out.2.1 HBD.out.2.2.1 HBD.out.2.2.2.1 (by omega) HFG.out
  unfold planV at hto hnw
  have HTO := Lib.hid hto
  have HNW := Lib.hid hnw
  have HTD := Lib.hid fun w => law17_told w
  have hq : Below wz.heap.size wz wz := Below.refl _ _
  obtain ⟨z0, z1, z2, z3, z4, z5, z6, z7, z8, z9⟩ := HBX.out _ hq
  clear hto hnw
  go_upto_region 5 with (first
    | (go_at_call 11; (with_reducible refine Calls.mono (HTO.out _ hq) ?_); rintro e w3 ⟨ur, uw, rfl, h1, h2, hba⟩; (obtain ⟨Az, cz, hx, _, _⟩ := (Sl.of_own h1).form); (obtain ⟨Ay', cy', hy, _, _⟩ := (Sl.of_own h2).form); subst hx; subst hy; (have HT1 := Lib.hid (Sl.of_own h1)); (have HT2 := Lib.hid (Sl.of_own h2)); (have hq := hq.trans (hba.mono hq.size)); (have HZ3 := Lib.hid hq.size); clear h1 h2 hba)
    | (go_at_call 10; (with_reducible refine Calls.mono (HNW.out _ _ _ _ HT1.out HT2.out (Nat.le_refl _)) ?_); rintro e w4 ⟨A, S1, Q, bp, bq, hN, uv, Rf, G, rfl, hm, hk, o1, o2, o3, o4, o5, hu, hqn, hbn⟩; (have HM4 := Lib.hid (MdAll.of_new (E := fun _ => False) hm hk o1 o2 o3 o4 o5 hu hqn (fun _ h => h.elim))); (have hq := hq.trans (hbn.mono hq.size)); clear hm hk o1 o2 o3 o4 o5 hu hqn hbn)
    | (go_at_call 12; (with_reducible refine Calls.mono (HTD.out _) ?_); rintro e w5 ⟨rfl, hbn⟩; (have HM5 := Lib.hid (HM4.out.call hbn)); (have hq := hq.trans (hbn.mono hq.size)); clear hbn))
  obtain ⟨y0, y1, y2, y3, y4, y5, y6, y7, y8, y9⟩ := HBX.out _ hq
  clear y1 y2 y3 y4 y5 y6 y7 y8 y9
  obtain ⟨pq, hpq⟩ : ∃ x, x = fx P a2 := ⟨_, rfl⟩
  have hP8 := HBD.out.1
  have hqP : pq < P := by rw [hpq]; exact fx_lt (by omega) a2
  have hzq : wrap64 ((IntKind.u64.wrap a2).tmod (P : Int)) = (pq : Int) := by rw [hpq]; exact fx_wrap (by omega) (by omega) a2
  have hUP : IntKind.u64.wrap (P : Int) = (P : Int) := by rw [IntKind.wrap_u64]; omega
  have hP0 : (P : Int) ≠ 0 := by omega
  have hP1 : ((P : Int) == 0) = false := by simp; omega
  clear hpq
  go_upto_region 6 with fail
  simp only [hzq]
  clear hzq hUP hP0 hP1 y0
  go_wp2
  go_loopw [10, 11, 12] (fun nn ss iv wr => ∃ (k : Nat) (lv' : List Vl) (st' : Nat → Int × Nat) (g' : Nat → Nat → Pl) (qv' : Nat → Nat → Value) (qs' : Nat → Nat → List Int), k ≤ no ∧ k ≤ 150 ∧ iv = .int .i64 k ∧ nn = .int .i64 ((st' pq).2 : Nat) ∧ ss = .int .i64 (st' pq).1 ∧ (st' pq).2 ≤ k ∧ Hid (MdAll (fun _ => False) wr w3.heap.size A S1 Q bp bq P Rg S B n (min lv0.length 8) uv lv' st' g' G Rf qv' qs' ∧ stG g' ∧ (∀ x ∈ lv', x.ok) ∧ Below wz.heap.size wz wr)) (fun _ _ iv _ => 150 - (intOf iv).toNat)
  case atStart => exact ⟨0, _, _, _, _, _, by omega, by omega, rfl, rfl, rfl, Nat.le_refl _, HM5.out, fun _ _ => by show (0 : Nat) < _; omega, fixVs_ok _ _ (allN_lt _) _ (by omega), hq⟩
  case round =>
    obtain ⟨k, lv', st', g', qv', qs', hk1, hk2, rfl, rfl, rfl, hnk, HI⟩ := hrel
    by_cases hlt : k < no ∧ k < 150
    · have d1 : decide (k < no) = true := decide_eq_true hlt.1
      have d2 : decide ((k : Int) < 150) = true := decide_eq_true (by omega)
      have d2' : decide (k < 150) = true := decide_eq_true (by omega)
      obtain ⟨b, off, rfl, hb, hcell⟩ := HOPS.out (by omega)
      obtain ⟨kd, po, tt, vi, sx, kv, km, me, un, nw, li, sh, bu, id, ⟨bv, bkm, bme, bun, bnw, bli⟩, e0, e1, e2, e3, e4, e5, e6, e7, e8, e9, e10, e11, e12, e13⟩ := hcell k hlt.1
      have hWz : W.heap.size ≤ wz.heap.size := HLZ.out.size
      have HCL : Hid (∀ w', Below wz.heap.size wz w' → w'.cell? ⟨b, off + k * 14, none⟩ = some (.int .i64 kd) ∧ w'.cell? ⟨b, off + k * 14 + 1, none⟩ = some (.int .i64 po) ∧ w'.cell? ⟨b, off + k * 14 + 2, none⟩ = some (.int .i64 tt) ∧ w'.cell? ⟨b, off + k * 14 + 3, none⟩ = some (.int .i64 vi) ∧ w'.cell? ⟨b, off + k * 14 + 4, none⟩ = some (.int .i64 sx) ∧ w'.cell? ⟨b, off + k * 14 + 5, none⟩ = some (.int .i64 kv) ∧ w'.cell? ⟨b, off + k * 14 + 6, none⟩ = some (.int .u64 (km : Nat)) ∧ w'.cell? ⟨b, off + k * 14 + 7, none⟩ = some (.int .u64 (me : Nat)) ∧ w'.cell? ⟨b, off + k * 14 + 8, none⟩ = some (.int .u64 (un : Nat)) ∧ w'.cell? ⟨b, off + k * 14 + 9, none⟩ = some (.int .u32 (nw : Nat)) ∧ w'.cell? ⟨b, off + k * 14 + 10, none⟩ = some (.int .u32 (li : Nat)) ∧ w'.cell? ⟨b, off + k * 14 + 11, none⟩ = some (.int .i64 sh) ∧ w'.cell? ⟨b, off + k * 14 + 12, none⟩ = some (.int .i64 bu) ∧ w'.cell? ⟨b, off + k * 14 + 13, none⟩ = some (.int .i64 id)) := fun w' hb9 => by
        have hbw := HLZ.out.trans (hb9.mono hWz)
        exact ⟨(hbw.cell (p := ⟨b, off + k * 14 + 0, none⟩) (by show b < _; omega)).trans e0, (hbw.cell (p := ⟨b, off + k * 14 + 1, none⟩) (by show b < _; omega)).trans e1, (hbw.cell (p := ⟨b, off + k * 14 + 2, none⟩) (by show b < _; omega)).trans e2, (hbw.cell (p := ⟨b, off + k * 14 + 3, none⟩) (by show b < _; omega)).trans e3, (hbw.cell (p := ⟨b, off + k * 14 + 4, none⟩) (by show b < _; omega)).trans e4, (hbw.cell (p := ⟨b, off + k * 14 + 5, none⟩) (by show b < _; omega)).trans e5, (hbw.cell (p := ⟨b, off + k * 14 + 6, none⟩) (by show b < _; omega)).trans e6, (hbw.cell (p := ⟨b, off + k * 14 + 7, none⟩) (by show b < _; omega)).trans e7, (hbw.cell (p := ⟨b, off + k * 14 + 8, none⟩) (by show b < _; omega)).trans e8, (hbw.cell (p := ⟨b, off + k * 14 + 9, none⟩) (by show b < _; omega)).trans e9, (hbw.cell (p := ⟨b, off + k * 14 + 10, none⟩) (by show b < _; omega)).trans e10, (hbw.cell (p := ⟨b, off + k * 14 + 11, none⟩) (by show b < _; omega)).trans e11, (hbw.cell (p := ⟨b, off + k * 14 + 12, none⟩) (by show b < _; omega)).trans e12, (hbw.cell (p := ⟨b, off + k * 14 + 13, none⟩) (by show b < _; omega)).trans e13⟩
      have hq2 := HI.out.2.2.2
      obtain ⟨c0, c1, c2, c3, c4, c5, c6, c7, c8, c9, c10, c11, c12, c13⟩ := HCL.out _ hq2
      have hop := fun w => law17_Op kd po tt vi sx kv km me un nw li sh bu id w
      have hdo := fun w' (hb : Below wr.heap.size wr w') => model_DoAny (HI.out.1.call hb) (by have := HBD.out.1; omega) HBD.out.2.2.2.2.2 HBD.out.2.1 HBD.out.2.2.1 HBD.out.2.2.2.1 HI.out.2.1 HI.out.2.2.1 kd po tt vi sx kv km me un nw li sh bu id bv bkm bme bun bnw
      unfold opV at hop hdo
      have HOP := Lib.hid hop
      have HDO := Lib.hid hdo
      clear hop hdo hcell bv bkm bme bun bnw bli e0 e1 e2 e3 e4 e5 e6 e7 e8 e9 e10 e11 e12 e13
      have hgs := fun w' lv2 (st2 : Nat → Int × Nat) g2 qv2 qs2 (h : MdAll (fun _ => False) w' w3.heap.size A S1 Q bp bq P Rg S B n (min lv0.length 8) uv lv2 st2 g2 G Rf qv2 qs2) (x : Int) (y : Nat) (he : st2 pq = (x, y)) => (by have h9 := model_DoState h pq hqP 0 0 0 0 0 0 0 0 0 0 0 0; rw [he] at h9; exact h9 : Calls Try.prog 14 #[.pointer (some ⟨A, 0, none⟩), opV 0 (pq : Nat) 0 0 0 0 0 0 0 0 0 0 0 0] w' (Says (.int .i64 x) w'))
      have hsd := fun w' lv2 (st2 : Nat → Int × Nat) g2 qv2 qs2 (h : MdAll (fun _ => False) w' w3.heap.size A S1 Q bp bq P Rg S B n (min lv0.length 8) uv lv2 st2 g2 G Rf qv2 qs2) (x : Int) (y : Nat) (he : st2 pq = (x, y)) => (by have h9 := model_Stand h.md pq hqP; rw [he] at h9; exact h9 : Calls Try.prog 21 #[.pointer (some ⟨A, 0, none⟩), .int .i64 (pq : Nat)] w' (Says (.agg #[.int .i64 x, .int .u32 (y : Nat)]) w'))
      unfold opV at hgs
      have HGS := Lib.hid hgs
      have HSD := Lib.hid hsd
      clear hgs hsd
      have HRT := Lib.hid fun w => ref16_Right sx w
      have HSF := Lib.hid (StF_at hqP st' kd po sx)
      have HQ2 := Lib.hid hq2
      clear hq2
      obtain ⟨x0, y0, hxy⟩ : ∃ (x : Int) (y : Nat), st' pq = (x, y) := ⟨_, _, rfl⟩
      have hnk' : y0 ≤ k := by rw [hxy] at hnk; exact hnk
      have hyw : ((y0 : Int) + 1 < 9223372036854775808) := by omega
      rw [hxy]
      simp only []
      by_cases t1 : kd = 8
      · by_cases t2 : po = (pq : Int)
        · by_cases t3 : rightSt sx = true
          · subst t1
            subst t2
            have HE : Hid (StF P st' 8 (pq : Int) sx pq = (sx, y0 + 1)) := Lib.hid (by rw [HSF.out, if_pos ⟨rfl, rfl, t3⟩, hxy]; show (sx, (y0 + 1) % 4294967296) = _; rw [Nat.mod_eq_of_lt (by omega)])
            clear HSF hxy
            go_wp2_with (first
              | (go_at_call 23; (with_reducible refine Calls.mono (HOP.out _) ?_); rintro e wo ⟨rfl, hbo⟩; (have HBO := Lib.hid hbo); clear hbo)
              | (go_at_call 14; (with_reducible refine Calls.mono (HDO.out _ HBO.out) ?_); rintro e wd ⟨a9, lv2, g2, qv2, qs2, rfl, hm2, hs2, ho2, hbl⟩; (have HR2 := Lib.hid (And.intro hs2 ho2)); (have hq3 := (HQ2.out.trans (HBO.out.mono HQ2.out.size)).trans (hbl.mono HZ3.out)); (obtain ⟨k0, k1, _, _, k4, _, _, _, _, _, _, _, _, _⟩ := HCL.out _ hq3); (have HQ3 := Lib.hid hq3); (have HM2 := Lib.hid hm2); clear hm2 hs2 ho2 hbl hq3)
              | (go_at_call 25; (with_reducible refine Calls.mono (HRT.out _) ?_); rintro e _ ⟨rfl, rfl⟩)
              | (go_at_call 21; (with_reducible refine Calls.mono (HSD.out _ _ _ _ _ _ HM2.out _ _ HE.out) ?_); rintro e ws ⟨rfl, hbs⟩; (have HBA := Lib.hid fun o => Below.alloc hbs hbs.size o); clear hbs)
              | (go_at_call 14; (with_reducible refine Calls.mono (HGS.out _ _ _ _ _ _ (HM2.out.call (HBA.out _)) _ _ HE.out) ?_); rintro e w8 ⟨rfl, hb8⟩; (have HB8 : Hid (Below wd.heap.size wd w8) := (HBA.out _).trans (hb8.mono (HBA.out _).size)); clear hb8)
              | fail)
            go_roundw
            case rel => exact ⟨k + 1, _, _, _, _, _, by omega, by omega, by go_num, by (rw [HE.out]; try rfl; try (simp; done)), by rw [HE.out], by rw [HE.out]; show _ ≤ _; omega, Lib.hid ⟨HM2.out.call HB8.out, HR2.out.1, HR2.out.2, HQ3.out.trans (HB8.out.mono HQ3.out.size)⟩⟩
            case measure => simp [intOf]; omega
          · subst t1
            subst t2
            have t3' : rightSt sx = false := by simpa using t3
            have HE : Hid (StF P st' 8 (pq : Int) sx pq = (x0, y0)) := Lib.hid (by rw [HSF.out, if_neg (fun e => t3 e.2.2)]; exact hxy)
            clear t3
            clear HSF hxy
            go_wp2_with (first
              | (go_at_call 23; (with_reducible refine Calls.mono (HOP.out _) ?_); rintro e wo ⟨rfl, hbo⟩; (have HBO := Lib.hid hbo); clear hbo)
              | (go_at_call 14; (with_reducible refine Calls.mono (HDO.out _ HBO.out) ?_); rintro e wd ⟨a9, lv2, g2, qv2, qs2, rfl, hm2, hs2, ho2, hbl⟩; (have HR2 := Lib.hid (And.intro hs2 ho2)); (have hq3 := (HQ2.out.trans (HBO.out.mono HQ2.out.size)).trans (hbl.mono HZ3.out)); (obtain ⟨k0, k1, _, _, k4, _, _, _, _, _, _, _, _, _⟩ := HCL.out _ hq3); (have HQ3 := Lib.hid hq3); (have HM2 := Lib.hid hm2); clear hm2 hs2 ho2 hbl hq3)
              | (go_at_call 25; (with_reducible refine Calls.mono (HRT.out _) ?_); rintro e _ ⟨rfl, rfl⟩)
              | (go_at_call 21; (with_reducible refine Calls.mono (HSD.out _ _ _ _ _ _ HM2.out _ _ HE.out) ?_); rintro e ws ⟨rfl, hbs⟩; (have HBA := Lib.hid fun o => Below.alloc hbs hbs.size o); clear hbs)
              | (go_at_call 14; (with_reducible refine Calls.mono (HGS.out _ _ _ _ _ _ (HM2.out.call (HBA.out _)) _ _ HE.out) ?_); rintro e w8 ⟨rfl, hb8⟩; (have HB8 : Hid (Below wd.heap.size wd w8) := (HBA.out _).trans (hb8.mono (HBA.out _).size)); clear hb8)
              | fail)
            go_roundw
            case rel => exact ⟨k + 1, _, _, _, _, _, by omega, by omega, by go_num, by (rw [HE.out]; try rfl; try (simp; done)), by rw [HE.out], by rw [HE.out]; show _ ≤ _; omega, Lib.hid ⟨HM2.out.call HB8.out, HR2.out.1, HR2.out.2, HQ3.out.trans (HB8.out.mono HQ3.out.size)⟩⟩
            case measure => simp [intOf]; omega
        · subst t1
          have t2' : (po == (pq : Int)) = false := by simpa using t2
          have HE : Hid (StF P st' 8 po sx pq = (x0, y0)) := Lib.hid (by rw [HSF.out, if_neg (fun e => t2 e.2.1)]; exact hxy)
          clear HSF hxy
          go_wp2_with (first
            | (go_at_call 23; (with_reducible refine Calls.mono (HOP.out _) ?_); rintro e wo ⟨rfl, hbo⟩; (have HBO := Lib.hid hbo); clear hbo)
            | (go_at_call 14; (with_reducible refine Calls.mono (HDO.out _ HBO.out) ?_); rintro e wd ⟨a9, lv2, g2, qv2, qs2, rfl, hm2, hs2, ho2, hbl⟩; (have HR2 := Lib.hid (And.intro hs2 ho2)); (have hq3 := (HQ2.out.trans (HBO.out.mono HQ2.out.size)).trans (hbl.mono HZ3.out)); (obtain ⟨k0, k1, _, _, k4, _, _, _, _, _, _, _, _, _⟩ := HCL.out _ hq3); (have HQ3 := Lib.hid hq3); (have HM2 := Lib.hid hm2); clear hm2 hs2 ho2 hbl hq3)
            | (go_at_call 25; (with_reducible refine Calls.mono (HRT.out _) ?_); rintro e _ ⟨rfl, rfl⟩)
            | (go_at_call 21; (with_reducible refine Calls.mono (HSD.out _ _ _ _ _ _ HM2.out _ _ HE.out) ?_); rintro e ws ⟨rfl, hbs⟩; (have HBA := Lib.hid fun o => Below.alloc hbs hbs.size o); clear hbs)
            | (go_at_call 14; (with_reducible refine Calls.mono (HGS.out _ _ _ _ _ _ (HM2.out.call (HBA.out _)) _ _ HE.out) ?_); rintro e w8 ⟨rfl, hb8⟩; (have HB8 : Hid (Below wd.heap.size wd w8) := (HBA.out _).trans (hb8.mono (HBA.out _).size)); clear hb8)
            | fail)
          go_roundw
          case rel => exact ⟨k + 1, _, _, _, _, _, by omega, by omega, by go_num, by (rw [HE.out]; try rfl; try (simp; done)), by rw [HE.out], by rw [HE.out]; show _ ≤ _; omega, Lib.hid ⟨HM2.out.call HB8.out, HR2.out.1, HR2.out.2, HQ3.out.trans (HB8.out.mono HQ3.out.size)⟩⟩
          case measure => simp [intOf]; omega
      · have t1' : (kd == 8) = false := by simpa using t1
        have HE : Hid (StF P st' kd po sx pq = (x0, y0)) := Lib.hid (by rw [HSF.out, if_neg (fun e => t1 e.1)]; exact hxy)
        clear HSF hxy
        go_wp2_with (first
          | (go_at_call 23; (with_reducible refine Calls.mono (HOP.out _) ?_); rintro e wo ⟨rfl, hbo⟩; (have HBO := Lib.hid hbo); clear hbo)
          | (go_at_call 14; (with_reducible refine Calls.mono (HDO.out _ HBO.out) ?_); rintro e wd ⟨a9, lv2, g2, qv2, qs2, rfl, hm2, hs2, ho2, hbl⟩; (have HR2 := Lib.hid (And.intro hs2 ho2)); (have hq3 := (HQ2.out.trans (HBO.out.mono HQ2.out.size)).trans (hbl.mono HZ3.out)); (obtain ⟨k0, k1, _, _, k4, _, _, _, _, _, _, _, _, _⟩ := HCL.out _ hq3); (have HQ3 := Lib.hid hq3); (have HM2 := Lib.hid hm2); clear hm2 hs2 ho2 hbl hq3)
          | (go_at_call 25; (with_reducible refine Calls.mono (HRT.out _) ?_); rintro e _ ⟨rfl, rfl⟩)
          | (go_at_call 21; (with_reducible refine Calls.mono (HSD.out _ _ _ _ _ _ HM2.out _ _ HE.out) ?_); rintro e ws ⟨rfl, hbs⟩; (have HBA := Lib.hid fun o => Below.alloc hbs hbs.size o); clear hbs)
          | (go_at_call 14; (with_reducible refine Calls.mono (HGS.out _ _ _ _ _ _ (HM2.out.call (HBA.out _)) _ _ HE.out) ?_); rintro e w8 ⟨rfl, hb8⟩; (have HB8 : Hid (Below wd.heap.size wd w8) := (HBA.out _).trans (hb8.mono (HBA.out _).size)); clear hb8)
          | fail)
        go_roundw
        case rel => exact ⟨k + 1, _, _, _, _, _, by omega, by omega, by go_num, by (rw [HE.out]; try rfl; try (simp; done)), by rw [HE.out], by rw [HE.out]; show _ ≤ _; omega, Lib.hid ⟨HM2.out.call HB8.out, HR2.out.1, HR2.out.2, HQ3.out.trans (HB8.out.mono HQ3.out.size)⟩⟩
        case measure => simp [intOf]; omega
    · have HBL := Lib.hid (HLZ.out.trans (HI.out.2.2.2.mono HLZ.out.size))
      by_cases hkn : k < no
      · have d1 : decide (k < no) = true := decide_eq_true hkn
        have d2 : decide ((k : Int) < 150) = false := decide_eq_false (by omega)
        have d2' : ¬ (k : Int) < 150 := by omega
        go_wp2
        go_ret
        exact ⟨by first | rfl | (simp; done), HBL.out⟩
      · have d1 : decide (k < no) = false := decide_eq_false hkn
        go_wp2
        go_ret
        exact ⟨by first | rfl | (simp; done), HBL.out⟩

set_option maxRecDepth 100000 in
/-- What the walk gives, for every argument: the row's own words. -/
theorem contract (H : Type) (enc : TypeId × Value → H) (W : World) (base : Nat) (args : Array Value) (ds gs : List (DataW H)) (before : List MemPlace)
    (hval : ∀ (j : Nat) t v, Try.f6.params[j]? = some t → args[j]? = some v → Value.okWide Try.prog W .any base t v)
    (hW : DataW.Whole enc Try.prog Try.f6.params.toList Rows.modelStandsSpec.vars false W args.toList ds gs before) :
    Calls Try.prog 6 args W fun e W' => ∃ v, e = .returned v ∧ Rows.modelStandsSpec.post enc Try.prog Try.f6 false true false false W args v W' := by
  have hW' := hW
  obtain ⟨p, q, hA0, hV, rfl, hfz, hnd⟩ := hW
  have hA : DataW.TrodAll enc Try.prog W 0 (fun _ => true) true Try.f6.params.toList args.toList ds p := hA0
  rw [Try.params6] at hA hval
  obtain ⟨v0, vs0, d0, ds0, p0, q0, hargs, rfl, rfl, h0, r0⟩ := trodAll_cons hA
  obtain ⟨v1, vs1, d1, ds1, p1, q1, rfl, rfl, rfl, h1, r1⟩ := trodAll_cons r0
  obtain ⟨v2, vs2, d2, ds2, p2, q2, rfl, rfl, rfl, h2, r2⟩ := trodAll_cons r1
  obtain ⟨rfl, rfl, rfl⟩ := trodAll_nil r2
  obtain rfl : args = #[v0, v1, v2] := by cases args; simp_all
  obtain ⟨P0, vr0, vv0, a0, b0, c0, T0, R0, nm0, sh0, lr0, lv0, rfl, hr0, hv0, ho0⟩ := open_plan Try.underlying28 (tr := 22) (tv := 23) (er := 96) (ev := 108) (i := 3) (u := 26) (q := 44) (by kernel_rfl) (by kernel_rfl) Try.underlying3 Try.underlying26 Try.underlying44 Try.underlying22 (by kernel_rfl) (by kernel_rfl) Try.underlying23 (by kernel_rfl) (by kernel_rfl) (hval 0 28 v0 rfl rfl) h0
  have b1 := open_ops17 Try.underlying69 (i := 3) (q := 44) (u := 26) (by kernel_rfl) (by kernel_rfl) Try.underlying3 Try.underlying44 Try.underlying26 (hval 1 69 v1 rfl rfl) h1
  obtain ⟨a2, rfl, b2⟩ := open_i64 Try.underlying3 (hval 2 3 v2 rfl rfl) h2
  refine (walk W P0 vr0 vv0 a0 b0 c0 T0 R0 nm0 sh0 lr0 lv0 hr0 hv0 ho0 v1 b1 a2 b2).mono fun e W' ⟨he, hb⟩ => ?_
  subst he
  exact close_true (by kernel_rfl) Try.underlying4 (by kernel_rfl) (by kernel_rfl) rfl rfl hW' hb

set_option maxRecDepth 100000 in
theorem lifted (os : Os) (started : os.Started) (H : Type) (enc : TypeId × Value → H) :
    ReturnsInHanded {} Try.checked os 6 .any (Rows.modelStandsSpec.pre6 enc Try.prog Try.f6 Rows.modelStandsRow.domain false) (Rows.modelStandsSpec.post enc Try.prog Try.f6 false true false false) := by
  refine returnsInHanded_of_change (C := Try.checked) own started (by kernel_rfl) Try.func6
    (ChangeSpec.witness6 (enc := enc) (C := Try.checked) false ⟨#[], #[.agg #[.int .i64 0, .slice none 0 0, .slice none 0 0, .int .i64 0, .int .i64 0, .int .i64 0, .int .i64 0, .int .i64 0, .int .u32 0, .int .u32 0], .slice none 0 0, .int .i64 0], []⟩ 8 (by kernel_rfl) (by kernel_rfl) (by kernel_rfl) (by kernel_rfl)) ?_
  intro W base args ds gs before hval hW _ _
  exact contract H enc W base args ds gs before hval hW

theorem proved : Rows.ModelStandsSaid :=
  OpenClaim.holds_of_wide 6 Try.f6 rfl rfl rfl rfl rfl rfl rfl ⟨rfl, rfl, rfl, rfl, rfl⟩ rfl rfl rfl rfl rfl (by kernel_rfl) Try.func6 (by kernel_rfl)
    (of_decide_eq_true (by kernel_rfl)) (by unfold Func.isWrapper; first | (rw [if_pos (by decide +kernel)]; kernel_rfl) | (rw [if_neg (by decide +kernel)]; exact ⟨rfl, rfl⟩))
    (fun os started H enc _ => lifted os started H enc)
#print axioms proved
end Go.Proofs.Ytcnfilbmmlolmaa.modelStands
