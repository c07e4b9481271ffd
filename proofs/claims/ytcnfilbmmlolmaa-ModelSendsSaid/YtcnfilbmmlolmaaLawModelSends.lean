/-
  What a Send is, of whatever was done: for every plan, every row of Ops, every VLAN's number. No condition.
-/
import Derived.Test.YtcnfilbmmlolmaaRows
import Derived.Test.YtcnfilbmmlolmaaOpenOp
import Derived.Test.YtcnfilbmmlolmaaMoY
import Derived.Test.YtcnfilbmmlolmaaMoJ
import Derived.Test.YtcnfilbmmlolmaaMoK
import Derived.Test.YtcnfilbmmlolmaaMoL
import Derived.Test.YtcnfilbmmlolmaaMoP
import Derived.WalkKit
import Derived.ProofKit
import Derived.OpenShut
namespace Go.Proofs.Ytcnfilbmmlolmaa.modelSends
open Go.ChangeShapes Go.WideShapes Go.ChangeAt Go.RowKit
open Go.ChangeMaps (open_string)
set_option linter.unusedVariables false

theorem own : ownKnob Try.prog.godebug = none := by kernel_rfl
theorem cell_low {w : World} {b : Nat} {o : Nat} {v : Value} (h : w.cell? ⟨b, o, none⟩ = some v) : b < w.heap.size := by
  unfold World.cell? at h
  split at h
  · rename_i hb
    exact (Array.getElem?_eq_some_iff.1 hb).1
  · cases h
theorem vidF_mono (l : List Vl) : ∀ d i, vidF l i + d ≤ vidF l (i + d)
  | 0, i => Nat.le_refl _
  | d + 1, i => by
    have h1 := vidF_mono l d i
    have h2 : vidF l (i + d + 1) = vidF l (i + d) + 1 + fx 3 (l.getD (i + d) vl0).vid := rfl
    have h3 : i + (d + 1) = i + d + 1 := by omega
    rw [h3, h2]
    omega
theorem vidF_inj {l : List Vl} {i j : Nat} (h : vidF l (i + 1) = vidF l (j + 1)) : i = j := by
  rcases Nat.lt_trichotomy i j with h1 | h1 | h1
  · have := vidF_mono l (j - i) (i + 1)
    rw [show i + 1 + (j - i) = j + 1 by omega] at this
    omega
  · exact h1
  · have := vidF_mono l (i - j) (j + 1)
    rw [show j + 1 + (i - j) = i + 1 by omega] at this
    omega

set_option maxRecDepth 20000 in
set_option maxHeartbeats 6400000 in
theorem walk (W : World) (P0 : Int) (vr0 vv0 : Value) (a0 b0 c0 T0 R0 : Int) (nm0 sh0 : Nat) (lr0 : List Rl) (lv0 : List Vl) (hr0 : Sl W W.heap.size 2 vr0 lr0.length (rlc lr0)) (hv0 : Sl W W.heap.size 3 vv0 lv0.length (vlc lv0)) (ho0 : ∀ x ∈ lv0, x.ok) (a1 : Value) (b1 : Ops17 W a1) (a2 : Int) (b2 : -9223372036854775808 ≤ a2 ∧ a2 ≤ 9223372036854775807) :
    Calls Try.prog 4 #[planV P0 vr0 vv0 a0 b0 c0 T0 R0 nm0 sh0, a1, .int .i64 a2] W (Says (.bool true) W) := by
  obtain ⟨Ao, no, co, rfl, hno, hcom, hops⟩ := b1
  have HOPS := Lib.hid hops
  clear hops
  obtain ⟨Ar, cr, rfl, hcr, hcm⟩ := hr0.form
  obtain ⟨Av, cv, rfl, hcv, hcw⟩ := hv0.form
  obtain ⟨P, hP⟩ : ∃ x, x = 2 + fx 7 P0 := ⟨_, rfl⟩
  obtain ⟨S, hS⟩ : ∃ x, x = 1 + fx 8 a0 := ⟨_, rfl⟩
  obtain ⟨B, hB⟩ : ∃ x, x = 1 + fx 16 b0 := ⟨_, rfl⟩
  obtain ⟨n, hn⟩ : ∃ x, x = 1 + fx 8 c0 := ⟨_, rfl⟩
  obtain ⟨T, hT⟩ : ∃ x, x = 1 + fx 8 T0 := ⟨_, rfl⟩
  obtain ⟨Rg, hG⟩ : ∃ x, x = 1 + fx 64 R0 := ⟨_, rfl⟩
  have hfix := fun w' (hb : Below W.heap.size W w') => ref17_Fix (hr0.below hb) (hv0.below hb) ho0 hb.size P0 a0 b0 c0 T0 R0 nm0 sh0 P S B n T Rg hP hT hG hS hB hn
  unfold planV at hfix ⊢
  have HFX := Lib.hid hfix
  have HN := Lib.hid (And.intro hP (And.intro hS (And.intro hB (And.intro hn (And.intro hT hG)))))
  clear hfix hr0 hv0 ho0 hP hS hB hn hT hG hcr hcm hcv hcw
  go_enter Try.func4, Try.ntmps4
  go_upto_region 2 with (first
    | (go_at_call 22; (with_reducible refine Calls.mono (HFX.out _ ((Below.refl _ _).alloc (Nat.le_refl _) _)) ?_); rintro e wa ⟨ur, uw, rfl, h1, h2, hba⟩; (obtain ⟨Ax, cx, hx, _, _⟩ := (Sl.of_own h1).form); (obtain ⟨Ay, cy, hy, _, _⟩ := (Sl.of_own h2).form); subst hx; subst hy; (have H1 := Lib.hid h1); (have H2 := Lib.hid h2); (have HBA := Lib.hid hba); (have HTH : Hid (wa.there W.heap.size 0 10) := there_below (there_of (cs := #[.int .i64 P0, .slice Ar lr0.length cr, .slice Av lv0.length cv, .int .i64 a0, .int .i64 b0, .int .i64 c0, .int .i64 T0, .int .i64 R0, .int .u32 (nm0 : Int), .int .u32 (sh0 : Int)]) (heap_self W _ 28)) hba (by simp)); clear h1 h2 hba)
    | (refine wpList_store (by rfl) 28 _ _ (by rfl) W.heap.size 0 #[.int .i64 (P : Nat), .slice Ax P cx, .slice Ay (min lv0.length 8) cy, .int .i64 (S : Nat), .int .i64 (B : Nat), .int .i64 (n : Nat), .int .i64 (T : Nat), .int .i64 (Rg : Nat), .int .u32 (nm0 : Int), .int .u32 (sh0 : Int)] (by rfl) (by rfl) HTH.out (by kernel_rfl) (by simp [Value.oneCell']) ?_; intro wz hst; (have hWz : W.heap.size < wa.heap.size := by have := HBA.out.size; simp at this; omega); (have HBX : Hid (∀ w', Below wz.heap.size wz w' → w'.cell? ⟨W.heap.size, 0, none⟩ = some (.int .i64 (P : Nat)) ∧ w'.cell? ⟨W.heap.size, 1, none⟩ = some (.slice Ax P cx) ∧ w'.cell? ⟨W.heap.size, 2, none⟩ = some (.slice Ay (min lv0.length 8) cy) ∧ w'.cell? ⟨W.heap.size, 3, none⟩ = some (.int .i64 (S : Nat)) ∧ w'.cell? ⟨W.heap.size, 4, none⟩ = some (.int .i64 (B : Nat)) ∧ w'.cell? ⟨W.heap.size, 5, none⟩ = some (.int .i64 (n : Nat)) ∧ w'.cell? ⟨W.heap.size, 6, none⟩ = some (.int .i64 (T : Nat)) ∧ w'.cell? ⟨W.heap.size, 7, none⟩ = some (.int .i64 (Rg : Nat)) ∧ w'.cell? ⟨W.heap.size, 8, none⟩ = some (.int .u32 (nm0 : Int)) ∧ w'.cell? ⟨W.heap.size, 9, none⟩ = some (.int .u32 (sh0 : Int))) := fun w' hb => ⟨(hb.cell (p := ⟨W.heap.size, 0, none⟩) (by show W.heap.size < _; rw [hst.size]; omega)).trans (hst.cells 0 _ rfl), (hb.cell (p := ⟨W.heap.size, 1, none⟩) (by show W.heap.size < _; rw [hst.size]; omega)).trans (hst.cells 1 _ rfl), (hb.cell (p := ⟨W.heap.size, 2, none⟩) (by show W.heap.size < _; rw [hst.size]; omega)).trans (hst.cells 2 _ rfl), (hb.cell (p := ⟨W.heap.size, 3, none⟩) (by show W.heap.size < _; rw [hst.size]; omega)).trans (hst.cells 3 _ rfl), (hb.cell (p := ⟨W.heap.size, 4, none⟩) (by show W.heap.size < _; rw [hst.size]; omega)).trans (hst.cells 4 _ rfl), (hb.cell (p := ⟨W.heap.size, 5, none⟩) (by show W.heap.size < _; rw [hst.size]; omega)).trans (hst.cells 5 _ rfl), (hb.cell (p := ⟨W.heap.size, 6, none⟩) (by show W.heap.size < _; rw [hst.size]; omega)).trans (hst.cells 6 _ rfl), (hb.cell (p := ⟨W.heap.size, 7, none⟩) (by show W.heap.size < _; rw [hst.size]; omega)).trans (hst.cells 7 _ rfl), (hb.cell (p := ⟨W.heap.size, 8, none⟩) (by show W.heap.size < _; rw [hst.size]; omega)).trans (hst.cells 8 _ rfl), (hb.cell (p := ⟨W.heap.size, 9, none⟩) (by show W.heap.size < _; rw [hst.size]; omega)).trans (hst.cells 9 _ rfl)⟩); (have HLZ : Hid (Below W.heap.size W wz) := (((Below.refl _ _).alloc (Nat.le_refl _) _).trans (HBA.out.mono (by simp))).trans (hst.below _ (Nat.le_refl _))); (have HR := Lib.hid (Sl.of_own (own_stored H1.out hst (fun e => by have := (H1.out.lt _ e).1; simp at this; omega)))); (have HV := Lib.hid (Sl.of_own (own_stored H2.out hst (fun e => by have := (H2.out.lt _ e).1; simp at this; omega)))); clear hst H1 H2 HBA HTH))
  have HFG := Lib.hid (fix_good lr0 lv0 P0 a0 b0 c0 T0 R0 P S B n T Rg lv0.length HN.out.1 HN.out.2.2.2.2.1 HN.out.2.2.2.2.2 HN.out.2.1 HN.out.2.2.1 HN.out.2.2.2.1)
  have HBD : Hid ((2 ≤ P ∧ P ≤ 8) ∧ (1 ≤ S ∧ S ≤ 8) ∧ (1 ≤ B ∧ B ≤ 16) ∧ (1 ≤ n ∧ n ≤ 8) ∧ (1 ≤ Rg ∧ Rg ≤ 64)) := by
    obtain ⟨e1, e2, e3, e4, e5, e6⟩ := HN.out
    have k1 := fx_lt (k := 7) (by omega) P0
    have k2 := fx_lt (k := 8) (by omega) a0
    have k3 := fx_lt (k := 16) (by omega) b0
    have k4 := fx_lt (k := 8) (by omega) c0
    have k5 := fx_lt (k := 64) (by omega) R0
    exact ⟨by omega, by omega, by omega, by omega, by omega⟩
  have hto := fun w' (hb : Below wz.heap.size wz w') => law17_To (HR.out.below hb) (HV.out.below hb) hb.size (by omega) (by have := HBD.out.1.2; omega) (P : Nat) (S : Nat) (B : Nat) (n : Nat) (T : Nat) (Rg : Nat) nm0 sh0
  have hnw := fun (w' : World) (Bo : Nat) (vr vv : Value) (h1 : Sl w' Bo 2 vr P (rlc (fixRs lr0 P))) (h2 : Sl w' Bo 3 vv (min lv0.length 8) (vlc (fixVs (allN P) lv0 (min lv0.length 8)))) (hB : Bo ≤ w'.heap.size) => model_New h1 h2 (fixVs_ok _ _ (allN_lt _) _ (by omega)) hB (fixRs_first lr0 P) P S B n Rg T nm0 sh0 (by have := HBD.out.1; omega) HBD.out.2.1 HBD.out.2.2.1 HBD.out.2.2.2.1 (by omega) HFG.out
  unfold planV at hto hnw
  have HTO := Lib.hid hto
  have HNW := Lib.hid hnw
  have HTD := Lib.hid fun w => law17_told w
  have hq : Below wz.heap.size wz wz := Below.refl _ _
  obtain ⟨z0, z1, z2, z3, z4, z5, z6, z7, z8, z9⟩ := HBX.out _ hq
  clear hto hnw
  go_upto_region 5 with (first
    | (go_at_call 11; (with_reducible refine Calls.mono (HTO.out _ hq) ?_); rintro e w3 ⟨ur, uw, rfl, h1, h2, hba⟩; (obtain ⟨Az, cz, hx, _, _⟩ := (Sl.of_own h1).form); (obtain ⟨Ay', cy', hy, _, _⟩ := (Sl.of_own h2).form); subst hx; subst hy; (have HT1 := Lib.hid (Sl.of_own h1)); (have HT2 := Lib.hid (Sl.of_own h2)); (have hq := hq.trans (hba.mono hq.size)); (have HZ3 := Lib.hid hq.size); clear h1 h2 hba)
    | (go_at_call 10; (with_reducible refine Calls.mono (HNW.out _ _ _ _ HT1.out HT2.out (Nat.le_refl _)) ?_); rintro e w4 ⟨A, S1, Q, bp, bq, hN, uv, Rf, G, rfl, hm, hk, o1, o2, o3, o4, o5, hu, hqn, hbn⟩; (have HM4 := Lib.hid (MdAll.of_new (E := fun _ => False) hm hk o1 o2 o3 o4 o5 hu hqn (fun _ h => h.elim))); (have hq := hq.trans (hbn.mono hq.size)); clear hm hk o1 o2 o3 o4 o5 hu hqn hbn)
    | (go_at_call 12; (with_reducible refine Calls.mono (HTD.out _) ?_); rintro e w5 ⟨rfl, hbn⟩; (have HM5 := Lib.hid (HM4.out.call hbn)); (have hq := hq.trans (hbn.mono hq.size)); clear hbn))
  have hP8 := HBD.out.1
  have HZZ : Hid (W.heap.size < wz.heap.size) := Lib.hid (cell_low z0)
  have HVV : Hid (∀ i j, i < (min lv0.length 8) → j < (min lv0.length 8) → ((vidF lv0 (i + 1) : Nat) : Int) = ((vidF lv0 (j + 1) : Nat) : Int) → i = j) := fun i j _ _ h => vidF_inj (Int.ofNat.inj h)
  have HINV : Hid (Ms.inv (min lv0.length 8) (fun i => ((vidF lv0 (i + 1) : Nat) : Int)) ⟨fixVs (allN P) lv0 (min lv0.length 8), fun _ => (0, 0), fun _ _ => pl0, fun _ _ => []⟩) := ⟨fun _ => (show rightSt 0 = true by decide), fixVs_length _ _ _, fun i hi => by rw [fixVs_getD _ lv0 hi]; rfl⟩
  clear z0 z1 z2 z3 z4 z5 z6 z7 z8 z9
  go_wp2
  go_loopw [9] (fun iv wr => ∃ (k : Nat) (s : Ms) (qv' : Nat → Nat → Value), k ≤ no ∧ k ≤ 100 ∧ iv = .int .i64 k ∧ Hid (MdAll (fun _ => False) wr w3.heap.size A S1 Q bp bq P Rg S B n (min lv0.length 8) uv s.lv s.st s.g G Rf qv' s.qs ∧ s.good ∧ Below wz.heap.size wz wr ∧ s.inv (min lv0.length 8) (fun i => ((vidF lv0 (i + 1) : Nat) : Int)))) (fun iv _ => 100 - (intOf iv).toNat)
  case atStart => exact ⟨0, ⟨fixVs (allN P) lv0 (min lv0.length 8), fun _ => (0, 0), fun _ _ => pl0, fun _ _ => []⟩, _, by omega, by omega, rfl, HM5.out, ⟨fun _ _ => by show (0 : Nat) < _; omega, fixVs_ok _ _ (allN_lt _) _ (by omega)⟩, hq, HINV.out⟩
  case round =>
    obtain ⟨k, s, qv', hk1, hk2, rfl, HI⟩ := hrel
    by_cases hlt : k < no ∧ k < 100
    · have d1 : decide (k < no) = true := decide_eq_true hlt.1
      have d2 : decide ((k : Int) < 100) = true := decide_eq_true (by omega)
      have d2' : decide (k < 100) = true := decide_eq_true (by omega)
      obtain ⟨b, off, rfl, hb, hcell⟩ := HOPS.out (by omega)
      obtain ⟨kd, po, tt, vi, sx, kv, km, me, un, nw, li, sh, bu, id, ⟨bv, bkm, bme, bun, bnw, bli⟩, e0, e1, e2, e3, e4, e5, e6, e7, e8, e9, e10, e11, e12, e13⟩ := hcell k hlt.1
      have hWz : W.heap.size ≤ wz.heap.size := HLZ.out.size
      have HCL : Hid (∀ w', Below wz.heap.size wz w' → w'.cell? ⟨b, off + k * 14, none⟩ = some (.int .i64 kd) ∧ w'.cell? ⟨b, off + k * 14 + 1, none⟩ = some (.int .i64 po) ∧ w'.cell? ⟨b, off + k * 14 + 2, none⟩ = some (.int .i64 tt) ∧ w'.cell? ⟨b, off + k * 14 + 3, none⟩ = some (.int .i64 vi) ∧ w'.cell? ⟨b, off + k * 14 + 4, none⟩ = some (.int .i64 sx) ∧ w'.cell? ⟨b, off + k * 14 + 5, none⟩ = some (.int .i64 kv) ∧ w'.cell? ⟨b, off + k * 14 + 6, none⟩ = some (.int .u64 (km : Nat)) ∧ w'.cell? ⟨b, off + k * 14 + 7, none⟩ = some (.int .u64 (me : Nat)) ∧ w'.cell? ⟨b, off + k * 14 + 8, none⟩ = some (.int .u64 (un : Nat)) ∧ w'.cell? ⟨b, off + k * 14 + 9, none⟩ = some (.int .u32 (nw : Nat)) ∧ w'.cell? ⟨b, off + k * 14 + 10, none⟩ = some (.int .u32 (li : Nat)) ∧ w'.cell? ⟨b, off + k * 14 + 11, none⟩ = some (.int .i64 sh) ∧ w'.cell? ⟨b, off + k * 14 + 12, none⟩ = some (.int .i64 bu) ∧ w'.cell? ⟨b, off + k * 14 + 13, none⟩ = some (.int .i64 id)) := fun w' hb9 => by
        have hbw := HLZ.out.trans (hb9.mono hWz)
        exact ⟨(hbw.cell (p := ⟨b, off + k * 14 + 0, none⟩) (by show b < _; omega)).trans e0, (hbw.cell (p := ⟨b, off + k * 14 + 1, none⟩) (by show b < _; omega)).trans e1, (hbw.cell (p := ⟨b, off + k * 14 + 2, none⟩) (by show b < _; omega)).trans e2, (hbw.cell (p := ⟨b, off + k * 14 + 3, none⟩) (by show b < _; omega)).trans e3, (hbw.cell (p := ⟨b, off + k * 14 + 4, none⟩) (by show b < _; omega)).trans e4, (hbw.cell (p := ⟨b, off + k * 14 + 5, none⟩) (by show b < _; omega)).trans e5, (hbw.cell (p := ⟨b, off + k * 14 + 6, none⟩) (by show b < _; omega)).trans e6, (hbw.cell (p := ⟨b, off + k * 14 + 7, none⟩) (by show b < _; omega)).trans e7, (hbw.cell (p := ⟨b, off + k * 14 + 8, none⟩) (by show b < _; omega)).trans e8, (hbw.cell (p := ⟨b, off + k * 14 + 9, none⟩) (by show b < _; omega)).trans e9, (hbw.cell (p := ⟨b, off + k * 14 + 10, none⟩) (by show b < _; omega)).trans e10, (hbw.cell (p := ⟨b, off + k * 14 + 11, none⟩) (by show b < _; omega)).trans e11, (hbw.cell (p := ⟨b, off + k * 14 + 12, none⟩) (by show b < _; omega)).trans e12, (hbw.cell (p := ⟨b, off + k * 14 + 13, none⟩) (by show b < _; omega)).trans e13⟩
      have HQ2 := Lib.hid HI.out.2.2.1
      obtain ⟨c0, c1, c2, c3, c4, c5, c6, c7, c8, c9, c10, c11, c12, c13⟩ := HCL.out _ HQ2.out
      have hop := fun w => law17_Op kd po tt vi sx kv km me un nw li sh bu id w
      have hdo := fun w' (hb : Below wr.heap.size wr w') => model_DoAll (HI.out.1.call hb) (by have := HBD.out.1; omega) HBD.out.2.2.2.2.2 HBD.out.2.1 HBD.out.2.2.1 HBD.out.2.2.2.1 HI.out.2.1 ⟨kd, po, tt, vi, sx, kv, km, me, un, nw, li, sh, bu, id⟩ ⟨bv, bkm, bme, bun, bnw⟩
      obtain ⟨s2, hs2⟩ : ∃ x, x = doS P Rg S B n (min lv0.length 8) s ⟨kd, po, tt, vi, sx, kv, km, me, un, nw, li, sh, bu, id⟩ := ⟨_, rfl⟩
      have HIN2 : Hid (s2.inv (min lv0.length 8) (fun i => ((vidF lv0 (i + 1) : Nat) : Int))) := by rw [hs2]; exact Lib.hid (Ms.inv_do HI.out.2.2.2)
      rw [← hs2] at hdo
      unfold Od.val at hdo
      simp only [] at hdo
      unfold opV at hop hdo
      have HOP := Lib.hid hop
      have HDO := Lib.hid hdo
      clear hop hdo hcell bv bkm bme bun bnw bli e0 e1 e2 e3 e4 e5 e6 e7 e8 e9 e10 e11 e12 e13 hs2
      go_wp2_with (first
        | (go_at_call 23; (with_reducible refine Calls.mono (HOP.out _) ?_); rintro e wo ⟨rfl, hbo⟩; (have HBO := Lib.hid hbo); clear hbo)
        | (go_at_call 14; (with_reducible refine Calls.mono (HDO.out _ HBO.out) ?_); rintro e wd ⟨qv2, rfl, hm2, hg2, hf2⟩; (have HM2 := Lib.hid hm2); (have HG2 := Lib.hid hg2); (have HQ3 := Lib.hid ((HQ2.out.trans (HBO.out.mono HQ2.out.size)).trans (hf2.low.mono HZ3.out))); clear hm2 hg2 hf2)
        | fail)
      go_roundw
      case rel => exact ⟨k + 1, s2, _, by omega, by omega, by go_num, Lib.hid ⟨HM2.out, HG2.out, HQ3.out, HIN2.out⟩⟩
      case measure => simp [intOf]; omega
    · by_cases hkn : k < no
      · have d1 : decide (k < no) = true := decide_eq_true hkn
        have d2 : decide ((k : Int) < 100) = false := decide_eq_false (by omega)
        have d2' : ¬ (k : Int) < 100 := by omega
        have hq9 := HI.out.2.2.1
        have HVL := Lib.hid (model_Vlans HI.out.1.md (by omega))
        go_wp2_with (first
          | (go_at_call 16; (with_reducible refine Calls.mono HVL.out ?_); rintro e w6 ⟨uV, rfl, ho, hb⟩; (obtain ⟨Au, cu, hx, _, hcm⟩ := (Sl.of_own ho).form); subst hx; (have HO6 := Lib.hid (Sl.of_own ho)); (have HM6 := Lib.hid (HI.out.1.call hb)); (have HQ6 := Lib.hid (hq9.trans (hb.mono hq9.size))); clear ho hb)
          | fail)
        unfold maxLen at hcm
        have HW6 : Hid (W.heap.size < w6.heap.size) := by have h1 := HQ6.out.size; have h2 := HZZ.out; show _ < _; omega
        have HGI := Lib.hid (And.intro HI.out.2.1 HI.out.2.2.2)
        clear HI hq9 HVL
        go_loopw [11] (fun qx wr => ∃ q : Nat, q ≤ P ∧ qx = .int .i64 q ∧ Hid (Below w6.heap.size w6 wr)) (fun qx _ => P - (intOf qx).toNat)
        case atStart => exact ⟨0, by omega, rfl, Lib.hid (Below.refl _ _)⟩
        case round =>
          obtain ⟨q, hq1, rfl, HB⟩ := hrel
          rename_i wq _
          obtain ⟨y0, y1, y2, y3, y4, y5, y6, y7, y8, y9⟩ := HBX.out _ (HQ6.out.trans (HB.out.mono HQ6.out.size))
          clear y1 y2 y3 y4 y5 y6 y7 y8 y9
          by_cases hlt2 : q < P
          · have e1 : decide (q < P) = true := decide_eq_true hlt2
            go_wp2
            go_loopw [12, 13] (fun wv jv wr2 => ∃ j : Nat, j ≤ (min lv0.length 8) ∧ jv = .int .i64 j ∧ wv = .int .i64 (wantR s.lv a2 q j : Nat) ∧ Hid (Below w6.heap.size w6 wr2)) (fun _ jv _ => (min lv0.length 8) - (intOf jv).toNat)
            case atStart => exact ⟨0, by omega, rfl, rfl, HB⟩
            case round =>
              obtain ⟨j, hj, rfl, rfl, HB2⟩ := hrel
              rename_i wj _
              by_cases hlt3 : j < (min lv0.length 8)
              · have e3 : decide (j < (min lv0.length 8)) = true := decide_eq_true hlt3
                obtain ⟨b, off, cap, hx, _, _, hb, _, hcell⟩ := HO6.out.vlAt (by omega)
                injection hx with hx1 hx2 hx3
                subst hx1
                subst hx3
                obtain ⟨g0, g1, g2⟩ := hcell j hlt3
                have hbw := (bcell HB2.out).1
                have k0 := (hbw b (off + j * 3) (by omega)).trans g0
                have k1 := (hbw b (off + j * 3 + 1) (by omega)).trans g1
                have k2 := (hbw b (off + j * 3 + 2) (by omega)).trans g2
                obtain ⟨x, hx⟩ : ∃ x, x = s.lv.getD j vl0 := ⟨_, rfl⟩
                have hxok : x.ok := by
                  rw [hx, List.getD_eq_getElem?_getD]
                  cases h9 : s.lv[j]?
                  · exact ⟨by decide, by decide, by decide⟩
                  · exact HGI.out.1.2 _ (List.mem_of_getElem? h9)
                rw [← hx] at k0 k1 k2
                have hwr : wantR s.lv a2 q (j + 1) = if x.vid = a2 then if hasB x.mem q = true then if hasB x.unt q = true then 2 else 3 else wantR s.lv a2 q j else wantR s.lv a2 q j := by
                  rw [wantR]
                  unfold vidAt
                  rw [← hx]
                  by_cases e : x.vid = a2
                  · rw [if_pos e, if_pos (by rw [e]; exact beq_self_eq_true _)]
                  · rw [if_neg e, if_neg (by simpa using e)]
                have HWR := Lib.hid hwr
                have HHM := Lib.hid fun w => ref3_Has x.mem hxok.2.1 q w
                have HHU := Lib.hid fun w => ref3_Has x.unt hxok.2.2 q w
                clear hbw g0 g1 g2 hcell hx hwr hxok
                by_cases t1 : x.vid = a2
                · cases t2 : hasB x.mem (q : Int)
                  · have t1' : (x.vid == a2) = true := by simpa using t1
                    have HT := Lib.hid t1
                    clear t1
                    rw [t2] at HHM
                    go_wp2_with (first
                      | (go_at_call 24; (with_reducible refine Calls.mono (HHM.out _) ?_); rintro e _ ⟨rfl, rfl⟩)
                      | (go_at_call 24; (with_reducible refine Calls.mono (HHU.out _) ?_); rintro e _ ⟨rfl, rfl⟩)
                      | fail)
                    go_roundw
                    case rel => exact ⟨j + 1, by omega, by go_num, by rw [HWR.out, if_pos HT.out, if_neg (by rw [t2]; decide)], HB2⟩
                    case measure => simp [intOf]; omega
                  · cases t3 : hasB x.unt (q : Int)
                    · have t1' : (x.vid == a2) = true := by simpa using t1
                      have HT := Lib.hid t1
                      clear t1
                      rw [t2] at HHM
                      rw [t3] at HHU
                      go_wp2_with (first
                        | (go_at_call 24; (with_reducible refine Calls.mono (HHM.out _) ?_); rintro e _ ⟨rfl, rfl⟩)
                        | (go_at_call 24; (with_reducible refine Calls.mono (HHU.out _) ?_); rintro e _ ⟨rfl, rfl⟩)
                        | fail)
                      go_roundw
                      case rel => exact ⟨j + 1, by omega, by go_num, by (rw [HWR.out, if_pos HT.out, if_pos t2, if_neg (by rw [t3]; decide)]; try rfl), HB2⟩
                      case measure => simp [intOf]; omega
                    · have t1' : (x.vid == a2) = true := by simpa using t1
                      have HT := Lib.hid t1
                      clear t1
                      rw [t2] at HHM
                      rw [t3] at HHU
                      go_wp2_with (first
                        | (go_at_call 24; (with_reducible refine Calls.mono (HHM.out _) ?_); rintro e _ ⟨rfl, rfl⟩)
                        | (go_at_call 24; (with_reducible refine Calls.mono (HHU.out _) ?_); rintro e _ ⟨rfl, rfl⟩)
                        | fail)
                      go_roundw
                      case rel => exact ⟨j + 1, by omega, by go_num, by (rw [HWR.out, if_pos HT.out, if_pos t2, if_pos t3]; try rfl), HB2⟩
                      case measure => simp [intOf]; omega
                · have t1' : (x.vid == a2) = false := by simpa using t1
                  go_wp2_with (first
                    | (go_at_call 24; (with_reducible refine Calls.mono (HHM.out _) ?_); rintro e _ ⟨rfl, rfl⟩)
                    | (go_at_call 24; (with_reducible refine Calls.mono (HHU.out _) ?_); rintro e _ ⟨rfl, rfl⟩)
                    | fail)
                  go_roundw
                  case rel => exact ⟨j + 1, by omega, by go_num, by rw [HWR.out, if_neg t1], HB2⟩
                  case measure => simp [intOf]; omega
              · have e3 : decide (j < (min lv0.length 8)) = false := decide_eq_false hlt3
                obtain rfl : j = (min lv0.length 8) := by omega
                obtain ⟨x0, z0, hxz⟩ : ∃ (x : Int) (z : Nat), s.st q = (x, z) := ⟨_, _, rfl⟩
                have hr0 := HGI.out.2.rs q
                have hsd := fun w' (hb : Below w6.heap.size w6 w') => model_Stand (HM6.out.md.call hb) q hlt2
                have hsn := fun w' (hb : Below w6.heap.size w6 w') => model_Do12 (HM6.out.call hb) HGI.out.1.2 q hlt2 0 a2 0 0 0 0 0 0 0 0 0 0
                have hrt := fun w => ref16_Right x0 w
                unfold opV at hsn
                rw [hxz] at hsd hsn hr0
                simp only [] at hsd hsn hr0
                rw [hr0] at hrt
                have HSD := Lib.hid hsd
                have HRT := Lib.hid hrt
                clear hsd hrt hr0
                by_cases h4 : x0 = 4
                · subst h4
                  rw [wantR_send HVV.out HGI.out.2.vid a2 q] at hsn
                  have HSN := Lib.hid hsn
                  clear hsn hxz
                  go_wp2_with (first
                    | (go_at_call 21; (with_reducible refine Calls.mono (HSD.out _ HB2.out) ?_); rintro e ws ⟨rfl, hbs⟩; (have HBA : Hid (∀ o, Below w6.heap.size w6 (ws.alloc o)) := fun o => (HB2.out.trans (hbs.mono HB2.out.size)).alloc (HB2.out.trans (hbs.mono HB2.out.size)).size o); clear hbs)
                    | (go_at_call 25; (with_reducible refine Calls.mono (HRT.out _) ?_); rintro e _ ⟨rfl, rfl⟩)
                    | (go_at_call 14; (with_reducible refine Calls.mono (HSN.out _ (HBA.out _)) ?_); rintro e w9 ⟨rfl, hb9⟩; (have HB9 : Hid (Below w6.heap.size w6 w9) := (HBA.out _).trans (hb9.mono (HBA.out _).size)); clear hb9)
                    | fail)
                  go_roundw
                  case rel => exact ⟨q + 1, by omega, by go_num, HB9⟩
                  case measure => simp [intOf]; omega
                · have h4' : (x0 == 4) = false := by simpa using h4
                  rw [show sendK s.lv (min lv0.length 8) x0 q a2 = 0 from if_pos h4] at hsn
                  have HSN := Lib.hid hsn
                  clear hsn hxz
                  go_wp2_with (first
                    | (go_at_call 21; (with_reducible refine Calls.mono (HSD.out _ HB2.out) ?_); rintro e ws ⟨rfl, hbs⟩; (have HBA : Hid (∀ o, Below w6.heap.size w6 (ws.alloc o)) := fun o => (HB2.out.trans (hbs.mono HB2.out.size)).alloc (HB2.out.trans (hbs.mono HB2.out.size)).size o); clear hbs)
                    | (go_at_call 25; (with_reducible refine Calls.mono (HRT.out _) ?_); rintro e _ ⟨rfl, rfl⟩)
                    | (go_at_call 14; (with_reducible refine Calls.mono (HSN.out _ (HBA.out _)) ?_); rintro e w9 ⟨rfl, hb9⟩; (have HB9 : Hid (Below w6.heap.size w6 w9) := (HBA.out _).trans (hb9.mono (HBA.out _).size)); clear hb9)
                    | fail)
                  go_roundw
                  case rel => exact ⟨q + 1, by omega, by go_num, HB9⟩
                  case measure => simp [intOf]; omega
          · have e1 : decide (q < P) = false := decide_eq_false hlt2
            have HBL := Lib.hid (HLZ.out.trans ((HQ6.out.trans (HB.out.mono HQ6.out.size)).mono HLZ.out.size))
            go_wp2
            go_ret
            exact ⟨by first | rfl | (simp; done), HBL.out⟩
      · have d1 : decide (k < no) = false := decide_eq_false hkn
        have hq9 := HI.out.2.2.1
        have HVL := Lib.hid (model_Vlans HI.out.1.md (by omega))
        go_wp2_with (first
          | (go_at_call 16; (with_reducible refine Calls.mono HVL.out ?_); rintro e w6 ⟨uV, rfl, ho, hb⟩; (obtain ⟨Au, cu, hx, _, hcm⟩ := (Sl.of_own ho).form); subst hx; (have HO6 := Lib.hid (Sl.of_own ho)); (have HM6 := Lib.hid (HI.out.1.call hb)); (have HQ6 := Lib.hid (hq9.trans (hb.mono hq9.size))); clear ho hb)
          | fail)
        unfold maxLen at hcm
        have HW6 : Hid (W.heap.size < w6.heap.size) := by have h1 := HQ6.out.size; have h2 := HZZ.out; show _ < _; omega
        have HGI := Lib.hid (And.intro HI.out.2.1 HI.out.2.2.2)
        clear HI hq9 HVL
        go_loopw [11] (fun qx wr => ∃ q : Nat, q ≤ P ∧ qx = .int .i64 q ∧ Hid (Below w6.heap.size w6 wr)) (fun qx _ => P - (intOf qx).toNat)
        case atStart => exact ⟨0, by omega, rfl, Lib.hid (Below.refl _ _)⟩
        case round =>
          obtain ⟨q, hq1, rfl, HB⟩ := hrel
          rename_i wq _
          obtain ⟨y0, y1, y2, y3, y4, y5, y6, y7, y8, y9⟩ := HBX.out _ (HQ6.out.trans (HB.out.mono HQ6.out.size))
          clear y1 y2 y3 y4 y5 y6 y7 y8 y9
          by_cases hlt2 : q < P
          · have e1 : decide (q < P) = true := decide_eq_true hlt2
            go_wp2
            go_loopw [12, 13] (fun wv jv wr2 => ∃ j : Nat, j ≤ (min lv0.length 8) ∧ jv = .int .i64 j ∧ wv = .int .i64 (wantR s.lv a2 q j : Nat) ∧ Hid (Below w6.heap.size w6 wr2)) (fun _ jv _ => (min lv0.length 8) - (intOf jv).toNat)
            case atStart => exact ⟨0, by omega, rfl, rfl, HB⟩
            case round =>
              obtain ⟨j, hj, rfl, rfl, HB2⟩ := hrel
              rename_i wj _
              by_cases hlt3 : j < (min lv0.length 8)
              · have e3 : decide (j < (min lv0.length 8)) = true := decide_eq_true hlt3
                obtain ⟨b, off, cap, hx, _, _, hb, _, hcell⟩ := HO6.out.vlAt (by omega)
                injection hx with hx1 hx2 hx3
                subst hx1
                subst hx3
                obtain ⟨g0, g1, g2⟩ := hcell j hlt3
                have hbw := (bcell HB2.out).1
                have k0 := (hbw b (off + j * 3) (by omega)).trans g0
                have k1 := (hbw b (off + j * 3 + 1) (by omega)).trans g1
                have k2 := (hbw b (off + j * 3 + 2) (by omega)).trans g2
                obtain ⟨x, hx⟩ : ∃ x, x = s.lv.getD j vl0 := ⟨_, rfl⟩
                have hxok : x.ok := by
                  rw [hx, List.getD_eq_getElem?_getD]
                  cases h9 : s.lv[j]?
                  · exact ⟨by decide, by decide, by decide⟩
                  · exact HGI.out.1.2 _ (List.mem_of_getElem? h9)
                rw [← hx] at k0 k1 k2
                have hwr : wantR s.lv a2 q (j + 1) = if x.vid = a2 then if hasB x.mem q = true then if hasB x.unt q = true then 2 else 3 else wantR s.lv a2 q j else wantR s.lv a2 q j := by
                  rw [wantR]
                  unfold vidAt
                  rw [← hx]
                  by_cases e : x.vid = a2
                  · rw [if_pos e, if_pos (by rw [e]; exact beq_self_eq_true _)]
                  · rw [if_neg e, if_neg (by simpa using e)]
                have HWR := Lib.hid hwr
                have HHM := Lib.hid fun w => ref3_Has x.mem hxok.2.1 q w
                have HHU := Lib.hid fun w => ref3_Has x.unt hxok.2.2 q w
                clear hbw g0 g1 g2 hcell hx hwr hxok
                by_cases t1 : x.vid = a2
                · cases t2 : hasB x.mem (q : Int)
                  · have t1' : (x.vid == a2) = true := by simpa using t1
                    have HT := Lib.hid t1
                    clear t1
                    rw [t2] at HHM
                    go_wp2_with (first
                      | (go_at_call 24; (with_reducible refine Calls.mono (HHM.out _) ?_); rintro e _ ⟨rfl, rfl⟩)
                      | (go_at_call 24; (with_reducible refine Calls.mono (HHU.out _) ?_); rintro e _ ⟨rfl, rfl⟩)
                      | fail)
                    go_roundw
                    case rel => exact ⟨j + 1, by omega, by go_num, by rw [HWR.out, if_pos HT.out, if_neg (by rw [t2]; decide)], HB2⟩
                    case measure => simp [intOf]; omega
                  · cases t3 : hasB x.unt (q : Int)
                    · have t1' : (x.vid == a2) = true := by simpa using t1
                      have HT := Lib.hid t1
                      clear t1
                      rw [t2] at HHM
                      rw [t3] at HHU
                      go_wp2_with (first
                        | (go_at_call 24; (with_reducible refine Calls.mono (HHM.out _) ?_); rintro e _ ⟨rfl, rfl⟩)
                        | (go_at_call 24; (with_reducible refine Calls.mono (HHU.out _) ?_); rintro e _ ⟨rfl, rfl⟩)
                        | fail)
                      go_roundw
                      case rel => exact ⟨j + 1, by omega, by go_num, by (rw [HWR.out, if_pos HT.out, if_pos t2, if_neg (by rw [t3]; decide)]; try rfl), HB2⟩
                      case measure => simp [intOf]; omega
                    · have t1' : (x.vid == a2) = true := by simpa using t1
                      have HT := Lib.hid t1
                      clear t1
                      rw [t2] at HHM
                      rw [t3] at HHU
                      go_wp2_with (first
                        | (go_at_call 24; (with_reducible refine Calls.mono (HHM.out _) ?_); rintro e _ ⟨rfl, rfl⟩)
                        | (go_at_call 24; (with_reducible refine Calls.mono (HHU.out _) ?_); rintro e _ ⟨rfl, rfl⟩)
                        | fail)
                      go_roundw
                      case rel => exact ⟨j + 1, by omega, by go_num, by (rw [HWR.out, if_pos HT.out, if_pos t2, if_pos t3]; try rfl), HB2⟩
                      case measure => simp [intOf]; omega
                · have t1' : (x.vid == a2) = false := by simpa using t1
                  go_wp2_with (first
                    | (go_at_call 24; (with_reducible refine Calls.mono (HHM.out _) ?_); rintro e _ ⟨rfl, rfl⟩)
                    | (go_at_call 24; (with_reducible refine Calls.mono (HHU.out _) ?_); rintro e _ ⟨rfl, rfl⟩)
                    | fail)
                  go_roundw
                  case rel => exact ⟨j + 1, by omega, by go_num, by rw [HWR.out, if_neg t1], HB2⟩
                  case measure => simp [intOf]; omega
              · have e3 : decide (j < (min lv0.length 8)) = false := decide_eq_false hlt3
                obtain rfl : j = (min lv0.length 8) := by omega
                obtain ⟨x0, z0, hxz⟩ : ∃ (x : Int) (z : Nat), s.st q = (x, z) := ⟨_, _, rfl⟩
                have hr0 := HGI.out.2.rs q
                have hsd := fun w' (hb : Below w6.heap.size w6 w') => model_Stand (HM6.out.md.call hb) q hlt2
                have hsn := fun w' (hb : Below w6.heap.size w6 w') => model_Do12 (HM6.out.call hb) HGI.out.1.2 q hlt2 0 a2 0 0 0 0 0 0 0 0 0 0
                have hrt := fun w => ref16_Right x0 w
                unfold opV at hsn
                rw [hxz] at hsd hsn hr0
                simp only [] at hsd hsn hr0
                rw [hr0] at hrt
                have HSD := Lib.hid hsd
                have HRT := Lib.hid hrt
                clear hsd hrt hr0
                by_cases h4 : x0 = 4
                · subst h4
                  rw [wantR_send HVV.out HGI.out.2.vid a2 q] at hsn
                  have HSN := Lib.hid hsn
                  clear hsn hxz
                  go_wp2_with (first
                    | (go_at_call 21; (with_reducible refine Calls.mono (HSD.out _ HB2.out) ?_); rintro e ws ⟨rfl, hbs⟩; (have HBA : Hid (∀ o, Below w6.heap.size w6 (ws.alloc o)) := fun o => (HB2.out.trans (hbs.mono HB2.out.size)).alloc (HB2.out.trans (hbs.mono HB2.out.size)).size o); clear hbs)
                    | (go_at_call 25; (with_reducible refine Calls.mono (HRT.out _) ?_); rintro e _ ⟨rfl, rfl⟩)
                    | (go_at_call 14; (with_reducible refine Calls.mono (HSN.out _ (HBA.out _)) ?_); rintro e w9 ⟨rfl, hb9⟩; (have HB9 : Hid (Below w6.heap.size w6 w9) := (HBA.out _).trans (hb9.mono (HBA.out _).size)); clear hb9)
                    | fail)
                  go_roundw
                  case rel => exact ⟨q + 1, by omega, by go_num, HB9⟩
                  case measure => simp [intOf]; omega
                · have h4' : (x0 == 4) = false := by simpa using h4
                  rw [show sendK s.lv (min lv0.length 8) x0 q a2 = 0 from if_pos h4] at hsn
                  have HSN := Lib.hid hsn
                  clear hsn hxz
                  go_wp2_with (first
                    | (go_at_call 21; (with_reducible refine Calls.mono (HSD.out _ HB2.out) ?_); rintro e ws ⟨rfl, hbs⟩; (have HBA : Hid (∀ o, Below w6.heap.size w6 (ws.alloc o)) := fun o => (HB2.out.trans (hbs.mono HB2.out.size)).alloc (HB2.out.trans (hbs.mono HB2.out.size)).size o); clear hbs)
                    | (go_at_call 25; (with_reducible refine Calls.mono (HRT.out _) ?_); rintro e _ ⟨rfl, rfl⟩)
                    | (go_at_call 14; (with_reducible refine Calls.mono (HSN.out _ (HBA.out _)) ?_); rintro e w9 ⟨rfl, hb9⟩; (have HB9 : Hid (Below w6.heap.size w6 w9) := (HBA.out _).trans (hb9.mono (HBA.out _).size)); clear hb9)
                    | fail)
                  go_roundw
                  case rel => exact ⟨q + 1, by omega, by go_num, HB9⟩
                  case measure => simp [intOf]; omega
          · have e1 : decide (q < P) = false := decide_eq_false hlt2
            have HBL := Lib.hid (HLZ.out.trans ((HQ6.out.trans (HB.out.mono HQ6.out.size)).mono HLZ.out.size))
            go_wp2
            go_ret
            exact ⟨by first | rfl | (simp; done), HBL.out⟩

set_option maxRecDepth 100000 in
/-- What the walk gives, for every argument: the row's own words. -/
theorem contract (H : Type) (enc : TypeId × Value → H) (W : World) (base : Nat) (args : Array Value) (ds gs : List (DataW H)) (before : List MemPlace)
    (hval : ∀ (j : Nat) t v, Try.f4.params[j]? = some t → args[j]? = some v → Value.okWide Try.prog W .any base t v)
    (hW : DataW.Whole enc Try.prog Try.f4.params.toList Rows.modelSendsSpec.vars false W args.toList ds gs before) :
    Calls Try.prog 4 args W fun e W' => ∃ v, e = .returned v ∧ Rows.modelSendsSpec.post enc Try.prog Try.f4 false true false false W args v W' := by
  have hW' := hW
  obtain ⟨p, q, hA0, hV, rfl, hfz, hnd⟩ := hW
  have hA : DataW.TrodAll enc Try.prog W 0 (fun _ => true) true Try.f4.params.toList args.toList ds p := hA0
  rw [Try.params4] at hA hval
  obtain ⟨v0, vs0, d0, ds0, p0, q0, hargs, rfl, rfl, h0, r0⟩ := trodAll_cons hA
  obtain ⟨v1, vs1, d1, ds1, p1, q1, rfl, rfl, rfl, h1, r1⟩ := trodAll_cons r0
  obtain ⟨v2, vs2, d2, ds2, p2, q2, rfl, rfl, rfl, h2, r2⟩ := trodAll_cons r1
  obtain ⟨rfl, rfl, rfl⟩ := trodAll_nil r2
  obtain rfl : args = #[v0, v1, v2] := by cases args; simp_all
  obtain ⟨P0, vr0, vv0, a0, b0, c0, T0, R0, nm0, sh0, lr0, lv0, rfl, hr0, hv0, ho0⟩ := open_plan Try.underlying28 (tr := 22) (tv := 23) (er := 96) (ev := 108) (i := 3) (u := 26) (q := 44) (by kernel_rfl) (by kernel_rfl) Try.underlying3 Try.underlying26 Try.underlying44 Try.underlying22 (by kernel_rfl) (by kernel_rfl) Try.underlying23 (by kernel_rfl) (by kernel_rfl) (hval 0 28 v0 rfl rfl) h0
  have b1 := open_ops17 Try.underlying69 (i := 3) (q := 44) (u := 26) (by kernel_rfl) (by kernel_rfl) Try.underlying3 Try.underlying44 Try.underlying26 (hval 1 69 v1 rfl rfl) h1
  obtain ⟨a2, rfl, b2⟩ := open_i64 Try.underlying3 (hval 2 3 v2 rfl rfl) h2
  refine (walk W P0 vr0 vv0 a0 b0 c0 T0 R0 nm0 sh0 lr0 lv0 hr0 hv0 ho0 v1 b1 a2 b2).mono fun e W' ⟨he, hb⟩ => ?_
  subst he
  exact close_true (by kernel_rfl) Try.underlying4 (by kernel_rfl) (by kernel_rfl) rfl rfl hW' hb

set_option maxRecDepth 100000 in
theorem lifted (os : Os) (started : os.Started) (H : Type) (enc : TypeId × Value → H) :
    ReturnsInHanded {} Try.checked os 4 .any (Rows.modelSendsSpec.pre6 enc Try.prog Try.f4 Rows.modelSendsRow.domain false) (Rows.modelSendsSpec.post enc Try.prog Try.f4 false true false false) := by
  refine returnsInHanded_of_change (C := Try.checked) own started (by kernel_rfl) Try.func4
    (ChangeSpec.witness6 (enc := enc) (C := Try.checked) false ⟨#[], #[.agg #[.int .i64 0, .slice none 0 0, .slice none 0 0, .int .i64 0, .int .i64 0, .int .i64 0, .int .i64 0, .int .i64 0, .int .u32 0, .int .u32 0], .slice none 0 0, .int .i64 0], []⟩ 8 (by kernel_rfl) (by kernel_rfl) (by kernel_rfl) (by kernel_rfl)) ?_
  intro W base args ds gs before hval hW _ _
  exact contract H enc W base args ds gs before hval hW

theorem proved : Rows.ModelSendsSaid :=
  OpenClaim.holds_of_wide 4 Try.f4 rfl rfl rfl rfl rfl rfl rfl ⟨rfl, rfl, rfl, rfl, rfl⟩ rfl rfl rfl rfl rfl (by kernel_rfl) Try.func4 (by kernel_rfl)
    (of_decide_eq_true (by kernel_rfl)) (by unfold Func.isWrapper; first | (rw [if_pos (by decide +kernel)]; kernel_rfl) | (rw [if_neg (by decide +kernel)]; exact ⟨rfl, rfl⟩))
    (fun os started H enc _ => lifted os started H enc)
#print axioms proved
end Go.Proofs.Ytcnfilbmmlolmaa.modelSends
