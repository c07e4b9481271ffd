/-
  Of whole numbers: behind so many ticks as many frames may come as the level lets, and no more than there is room for. No condition.
-/
import Derived.Test.YtdgjgddobjhekaaRows
import Derived.Test.YtdgjgddobjhekaaGaugeY
import Derived.Test.YtdgjgddobjhekaaBase
import Derived.WalkKit
import Derived.ProofKit
import Derived.OpenShut
namespace Go.Proofs.Ytdgjgddobjhekaa.gaugeFills
open Go.ChangeShapes Go.WideShapes Go.ChangeAt Go.RowKit
open Go.ChangeMaps (open_string)
set_option linter.unusedVariables false

theorem own : ownKnob Try.prog.godebug = none := by kernel_rfl
theorem frozen_alloc {w : World} {b : Nat} (h : ∀ o, w.frozen? ⟨b, o, none⟩ = false) (hb : b < w.heap.size) (obj : Obj) (o : Nat) : (w.alloc obj).frozen? ⟨b, o, none⟩ = false := by
  have := (bcell ((Below.refl w.heap.size w).alloc (Nat.le_refl _) obj)).2 b o hb
  rw [this]; exact h o

set_option maxRecDepth 20000 in
set_option maxHeartbeats 12800000 in
theorem walk (W : World) (a0 : Nat) (b0 : a0 < 256) (a1 : Nat) (b1 : a1 < 256) (a2 : Nat) (b2 : a2 < 256) :
    Calls Try.prog 8 #[.int .u8 (a0 : Int), .int .u8 (a1 : Int), .int .u8 (a2 : Int)] W (Says (.bool true) W) := by
  obtain ⟨P, hP⟩ : ∃ P, P = a0 * a2 := ⟨_, rfl⟩
  have hP2 : P < 65536 := by rw [hP]; exact Nat.mul_lt_mul'' b0 b2
  have hPi : (a0 : Int) * (a2 : Int) = (P : Int) := by rw [hP]; simp
  have hPw : wrap64 ((a0 : Int) * (a2 : Int)) = (P : Int) := by rw [hPi]; exact IntWalk.wrap64_in _ (by omega)
  obtain ⟨lv, hlv⟩ : ∃ lv, fN a0 = lv := ⟨_, rfl⟩
  obtain ⟨mo, hmo⟩ : ∃ mo, fN a1 = mo := ⟨_, rfl⟩
  have HLV : Hid (lv < 18446744073709551616) := by rw [← hlv]; exact fN_u64 _
  have HLO : Hid (openW lv = false) := by rw [← hlv]; exact openW_fN (by omega)
  have hnew := fun W => gauge_New lv mo 0 W
  rw [show ((0 : Nat) : Int) = 0 from rfl] at hnew
  have HNEW := Lib.hid hnew
  have HTOLD := Lib.hid told05
  have HRM : Hid (∀ q, q ≤ a1 → roomW lv mo (fN q) 0 = fN q) := fun q hq => by
    rw [← hlv, ← hmo, room_whole (by omega) (by omega) (by omega) (by omega), Nat.mul_zero, Nat.add_zero, Nat.min_eq_right hq]
  have HR1 : Hid (roomW lv mo mo (ageN 0 0) = fN (a1 - 0)) := by
    have := HRM.out a1 (Nat.le_refl _)
    rw [age_self, Nat.sub_zero]
    rw [hmo] at this ⊢
    exact this
  have HE0 : Hid (mo = fN (a1 - 0) ∧ 0 = 0) := ⟨by rw [Nat.sub_zero]; exact hmo.symm, rfl⟩
  have HRB0 : Hid (roomW lv mo (fN 0) a2 = fN (min a1 P)) := by
    show _ = _
    rw [← hlv, ← hmo, room_whole (by omega) (by omega) (by omega) (by omega), Nat.zero_add, hP]
  have Z32 : Hid (0 < 4294967296) := by show 0 < _; omega
  have A2L : Hid (a2 < 4294967296) := by show a2 < _; omega
  change floatOfInt .f64 (a0 : Int) = lv at hlv
  change floatOfInt .f64 (a1 : Int) = mo at hmo
  clear hP hnew
  rcases Nat.lt_or_ge P a1 with hc | hc
  · have HRB : Hid (roomW lv mo (fN 0) a2 = fN P) := by have := HRB0.out; rw [Nat.min_eq_right (by omega)] at this; exact this
    have hci : (P : Int) < (a1 : Int) := by omega
    have hmin : min (a1 : Int) (P : Int) = (P : Int) := by omega
    clear HRB0
    have hst := st_float
    go_enter Try.func8, Try.ntmps8
    go_wp2_with fail
    refine (HNEW.out _).mono ?_
    rintro e w1 ⟨rfl, hb⟩
    obtain ⟨g, hg⟩ : ∃ g, g = w1.heap.size := ⟨_, rfl⟩
    have HGL : Hid (W.heap.size ≤ g) := by rw [hg]; exact hb.size
    have hgw := HGL.out
    obtain ⟨w2, hw2⟩ : ∃ w2, w2 = w1.alloc (.cells #[.float .f64 lv, .float .f64 mo, .float .f64 mo, .int .u32 0] 37) := ⟨_, rfl⟩
    have HG0 : Hid (GAt w2 g lv mo mo 0) := by rw [hw2, hg]; exact GAt.new
    have HB0 : Hid (Below W.heap.size W w2) := by rw [hw2]; exact hb.alloc hb.size _
    clear hb
    go_wp2
    rw [← hw2, ← hg]
    clear hw2 hg
    go_loopw [8] (fun i wr => ∃ k x t : Nat, k ≤ a1 ∧ i = .int .i64 k ∧ t < 4294967296 ∧ Hid (roomW lv mo x (ageN 0 t) = fN (a1 - k)) ∧ Hid (x = fN (a1 - k) ∧ t = 0) ∧ Hid (GAt wr g lv mo x t) ∧ Hid (Below W.heap.size W wr)) (fun i _ => a1 + 1 - (intOf i).toNat)
    case atStart => exact ⟨0, mo, 0, by omega, rfl, by omega, HR1, ⟨HE0.out.1, rfl⟩, HG0, HB0⟩
    case round =>
      obtain ⟨k, x, t, hk, rfl, ht, HR, HE, HG, HB⟩ := hrel
      obtain ⟨hgl, k0, k1, k2, k3, kf⟩ := HG.out
      have g6 : (k : Int) < 600 := by omega
      by_cases hlt : k < a1
      · obtain ⟨q, hq⟩ : ∃ q, a1 - k = q + 1 := ⟨a1 - k - 1, by omega⟩
        have hq2 : a1 - (k + 1) = q := by omega
        have HT := Lib.hid fun W => take_whole (N := q) HLV.out HLO.out ht Z32.out (HR.out.trans (congrArg fN hq)) (by omega) W
        have HN2 : Hid (roomW lv mo (fN q) (ageN 0 0) = fN (a1 - (k + 1))) := by
          rw [age_self, hq2]
          exact HRM.out q (by omega)
        have HE2 : Hid (∀ y, y = fN q → y = fN (a1 - (k + 1)) ∧ (0 : Nat) = 0) := fun y hy => by rw [hy]; exact ⟨by rw [hq2], rfl⟩
        clear HR hq hq2 HE
        obtain ⟨y, hy⟩ : ∃ y, y = fN q := ⟨_, rfl⟩
        have HE3 := Lib.hid (HE2.out y hy)
        rw [← hy] at HT HN2
        clear hy HE2
        go_wp2_with fail
        refine (HT.out _).mono ?_
        rintro e w1 ⟨rfl, hb⟩
        have HG1 := Lib.hid (HG.out.call hb)
        have HB1 := Lib.hid (HB.out.trans (hb.mono HB.out.size))
        have hz1 := hb.size
        clear hb k0 k1 k2 k3 kf
        obtain ⟨hg1, k0', k1', k2', k3', kf'⟩ := HG1.out
        have k0 : ∀ o, (w1.alloc o).cell? ⟨g, 0, none⟩ = some (.float .f64 lv) := fun o => (World.cell?_alloc_lt _ _ _ (by show g < _; omega)).trans k0'
        have k1 : ∀ v o, ((w1.setCell ⟨g, 0, none⟩ v).alloc o).cell? ⟨g, 1, none⟩ = some (.float .f64 mo) := fun v o => (World.cell?_alloc_lt _ _ _ (by show g < _; simpa using hg1)).trans (by simp [go_sem, k1'])
        have k2 : ∀ v u o, (((w1.setCell ⟨g, 0, none⟩ v).setCell ⟨g, 1, none⟩ u).alloc o).cell? ⟨g, 2, none⟩ = some (.float .f64 x) := fun v u o => (World.cell?_alloc_lt _ _ _ (by show g < _; simpa using hg1)).trans (by simp [go_sem, k2'])
        have k3 : ∀ v u y o, ((((w1.setCell ⟨g, 0, none⟩ v).setCell ⟨g, 1, none⟩ u).setCell ⟨g, 2, none⟩ y).alloc o).cell? ⟨g, 3, none⟩ = some (.int .u32 (t : Int)) := fun v u y o => (World.cell?_alloc_lt _ _ _ (by show g < _; simpa using hg1)).trans (by simp [go_sem, k3'])
        have f0 : ∀ o i, (w1.alloc o).frozen? ⟨g, i, none⟩ = false := fun o i => frozen_alloc kf' hg1 o i
        have f1 : ∀ v o i, ((w1.setCell ⟨g, 0, none⟩ v).alloc o).frozen? ⟨g, i, none⟩ = false := fun v o i => frozen_alloc (fun o => by simp [go_sem, kf']) (by simpa using hg1) o i
        have f2 : ∀ v u o i, (((w1.setCell ⟨g, 0, none⟩ v).setCell ⟨g, 1, none⟩ u).alloc o).frozen? ⟨g, i, none⟩ = false := fun v u o i => frozen_alloc (fun o => by simp [go_sem, kf']) (by simpa using hg1) o i
        have f3 : ∀ v u y o i, ((((w1.setCell ⟨g, 0, none⟩ v).setCell ⟨g, 1, none⟩ u).setCell ⟨g, 2, none⟩ y).alloc o).frozen? ⟨g, i, none⟩ = false := fun v u y o i => frozen_alloc (fun o => by simp [go_sem, kf']) (by simpa using hg1) o i
        have ne1 : ¬ w1.heap.size = g := by omega
        have ne2 : ¬ g = w1.heap.size := by omega
        have hw1 := HB1.out.size
        clear k0' k1' k2' k3' kf'
        go_wp2
        go_roundw
        case rel =>
          exact ⟨k + 1, y, 0, by omega, by go_num, Z32.out, HN2, ⟨HE3.out.1, rfl⟩, (HG1.out.set _ _ _ _).alloc _, (setG_below HB1.out HGL.out _ _ _ _).alloc (by rw [setG_size]; omega) _⟩
        case measure => simp [intOf]; omega
      · have hkN : a1 - k = 0 := by omega
        have HT := Lib.hid fun W => take_nought HLV.out HLO.out ht Z32.out (HR.out.trans (congrArg fN hkN)) W
        have : a1 = k := by omega
        subst this
        obtain ⟨y, hy⟩ : ∃ y, y = fN 0 := ⟨_, rfl⟩
        rw [← hy] at HT
        clear hy HR hkN hlt
        go_wp2_with fail
        refine (HT.out _).mono ?_
        rintro e w1 ⟨rfl, hb⟩
        have HG1 := Lib.hid (HG.out.call hb)
        have HB1 := Lib.hid (HB.out.trans (hb.mono HB.out.size))
        have hz1 := HB1.out.size
        clear hb k0 k1 k2 k3 kf HG HB hgl
        obtain ⟨hx, rfl⟩ := HE.out
        have HS2 : Hid (roomW lv mo x (ageN a2 0) = fN (P - 0)) := by
          rw [hx, Nat.sub_self, age_small (by omega), Nat.sub_zero]
          exact HRB.out
        clear HE hx
        go_wp2
        go_loopw [11] (fun i wr => ∃ k x t : Nat, k ≤ P ∧ i = .int .i64 k ∧ t < 4294967296 ∧ Hid (roomW lv mo x (ageN a2 t) = fN (P - k)) ∧ Hid (True) ∧ Hid (GAt wr g lv mo x t) ∧ Hid (Below W.heap.size W wr)) (fun i _ => P + 1 - (intOf i).toNat)
        case atStart => exact ⟨0, x, 0, by omega, rfl, by omega, HS2, trivial, HG1.out.alloc _, HB1.out.alloc (by omega) _⟩
        case round =>
          obtain ⟨k, x, t, hk, rfl, ht, HR, HE, HG, HB⟩ := hrel
          obtain ⟨hgl, k0, k1, k2, k3, kf⟩ := HG.out
          have g6 : (k : Int) < 600 := by omega
          by_cases hlt : k < P
          · obtain ⟨q, hq⟩ : ∃ q, P - k = q + 1 := ⟨P - k - 1, by omega⟩
            have hq2 : P - (k + 1) = q := by omega
            have HT := Lib.hid fun W => take_whole (N := q) HLV.out HLO.out ht A2L.out (HR.out.trans (congrArg fN hq)) (by omega) W
            have HN2 : Hid (roomW lv mo (fN q) (ageN a2 a2) = fN (P - (k + 1))) := by
              rw [age_self, hq2]
              exact HRM.out q (by omega)
            have HE2 : Hid (∀ y, y = fN q → True) := fun y hy => trivial
            clear HR hq hq2 HE
            obtain ⟨y, hy⟩ : ∃ y, y = fN q := ⟨_, rfl⟩
            have HE3 := Lib.hid (HE2.out y hy)
            rw [← hy] at HT HN2
            clear hy HE2
            go_wp2_with fail
            refine (HT.out _).mono ?_
            rintro e w1 ⟨rfl, hb⟩
            have HG1 := Lib.hid (HG.out.call hb)
            have HB1 := Lib.hid (HB.out.trans (hb.mono HB.out.size))
            have hz1 := hb.size
            clear hb k0 k1 k2 k3 kf
            obtain ⟨hg1, k0', k1', k2', k3', kf'⟩ := HG1.out
            have k0 : ∀ o, (w1.alloc o).cell? ⟨g, 0, none⟩ = some (.float .f64 lv) := fun o => (World.cell?_alloc_lt _ _ _ (by show g < _; omega)).trans k0'
            have k1 : ∀ v o, ((w1.setCell ⟨g, 0, none⟩ v).alloc o).cell? ⟨g, 1, none⟩ = some (.float .f64 mo) := fun v o => (World.cell?_alloc_lt _ _ _ (by show g < _; simpa using hg1)).trans (by simp [go_sem, k1'])
            have k2 : ∀ v u o, (((w1.setCell ⟨g, 0, none⟩ v).setCell ⟨g, 1, none⟩ u).alloc o).cell? ⟨g, 2, none⟩ = some (.float .f64 x) := fun v u o => (World.cell?_alloc_lt _ _ _ (by show g < _; simpa using hg1)).trans (by simp [go_sem, k2'])
            have k3 : ∀ v u y o, ((((w1.setCell ⟨g, 0, none⟩ v).setCell ⟨g, 1, none⟩ u).setCell ⟨g, 2, none⟩ y).alloc o).cell? ⟨g, 3, none⟩ = some (.int .u32 (t : Int)) := fun v u y o => (World.cell?_alloc_lt _ _ _ (by show g < _; simpa using hg1)).trans (by simp [go_sem, k3'])
            have f0 : ∀ o i, (w1.alloc o).frozen? ⟨g, i, none⟩ = false := fun o i => frozen_alloc kf' hg1 o i
            have f1 : ∀ v o i, ((w1.setCell ⟨g, 0, none⟩ v).alloc o).frozen? ⟨g, i, none⟩ = false := fun v o i => frozen_alloc (fun o => by simp [go_sem, kf']) (by simpa using hg1) o i
            have f2 : ∀ v u o i, (((w1.setCell ⟨g, 0, none⟩ v).setCell ⟨g, 1, none⟩ u).alloc o).frozen? ⟨g, i, none⟩ = false := fun v u o i => frozen_alloc (fun o => by simp [go_sem, kf']) (by simpa using hg1) o i
            have f3 : ∀ v u y o i, ((((w1.setCell ⟨g, 0, none⟩ v).setCell ⟨g, 1, none⟩ u).setCell ⟨g, 2, none⟩ y).alloc o).frozen? ⟨g, i, none⟩ = false := fun v u y o i => frozen_alloc (fun o => by simp [go_sem, kf']) (by simpa using hg1) o i
            have ne1 : ¬ w1.heap.size = g := by omega
            have ne2 : ¬ g = w1.heap.size := by omega
            have hw1 := HB1.out.size
            clear k0' k1' k2' k3' kf'
            go_wp2
            go_roundw
            case rel =>
              exact ⟨k + 1, y, a2, by omega, by go_num, A2L.out, HN2, trivial, (HG1.out.set _ _ _ _).alloc _, (setG_below HB1.out HGL.out _ _ _ _).alloc (by rw [setG_size]; omega) _⟩
            case measure => simp [intOf]; omega
          · have hkN : P - k = 0 := by omega
            have HT := Lib.hid fun W => take_nought HLV.out HLO.out ht A2L.out (HR.out.trans (congrArg fN hkN)) W
            have : P = k := by omega
            subst this
            obtain ⟨y, hy⟩ : ∃ y, y = fN 0 := ⟨_, rfl⟩
            rw [← hy] at HT
            clear hy HR hkN hlt
            go_wp2_with fail
            refine (HT.out _).mono ?_
            rintro e w1 ⟨rfl, hb⟩
            have HG1 := Lib.hid (HG.out.call hb)
            have HB1 := Lib.hid (HB.out.trans (hb.mono HB.out.size))
            have hz1 := HB1.out.size
            clear hb k0 k1 k2 k3 kf HG HB hgl
            go_wp2_with fail
            refine (HTOLD.out _).mono ?_
            rintro e w4 ⟨rfl, hb⟩
            have HB4 := Lib.hid ((HB1.out.alloc (by omega) _).trans (hb.mono (by simp; omega)))
            clear hb
            go_wp2
            all_goals go_ret
            all_goals exact ⟨by simp, HB4.out⟩
  · have HRB : Hid (roomW lv mo (fN 0) a2 = fN a1) := by have := HRB0.out; rw [Nat.min_eq_left (by omega)] at this; exact this
    have hci : (a1 : Int) ≤ (P : Int) := by omega
    have hmin : min (a1 : Int) (P : Int) = (a1 : Int) := by omega
    clear HRB0
    have hst := st_float
    go_enter Try.func8, Try.ntmps8
    go_wp2_with fail
    refine (HNEW.out _).mono ?_
    rintro e w1 ⟨rfl, hb⟩
    obtain ⟨g, hg⟩ : ∃ g, g = w1.heap.size := ⟨_, rfl⟩
    have HGL : Hid (W.heap.size ≤ g) := by rw [hg]; exact hb.size
    have hgw := HGL.out
    obtain ⟨w2, hw2⟩ : ∃ w2, w2 = w1.alloc (.cells #[.float .f64 lv, .float .f64 mo, .float .f64 mo, .int .u32 0] 37) := ⟨_, rfl⟩
    have HG0 : Hid (GAt w2 g lv mo mo 0) := by rw [hw2, hg]; exact GAt.new
    have HB0 : Hid (Below W.heap.size W w2) := by rw [hw2]; exact hb.alloc hb.size _
    clear hb
    go_wp2
    rw [← hw2, ← hg]
    clear hw2 hg
    go_loopw [8] (fun i wr => ∃ k x t : Nat, k ≤ a1 ∧ i = .int .i64 k ∧ t < 4294967296 ∧ Hid (roomW lv mo x (ageN 0 t) = fN (a1 - k)) ∧ Hid (x = fN (a1 - k) ∧ t = 0) ∧ Hid (GAt wr g lv mo x t) ∧ Hid (Below W.heap.size W wr)) (fun i _ => a1 + 1 - (intOf i).toNat)
    case atStart => exact ⟨0, mo, 0, by omega, rfl, by omega, HR1, ⟨HE0.out.1, rfl⟩, HG0, HB0⟩
    case round =>
      obtain ⟨k, x, t, hk, rfl, ht, HR, HE, HG, HB⟩ := hrel
      obtain ⟨hgl, k0, k1, k2, k3, kf⟩ := HG.out
      have g6 : (k : Int) < 600 := by omega
      by_cases hlt : k < a1
      · obtain ⟨q, hq⟩ : ∃ q, a1 - k = q + 1 := ⟨a1 - k - 1, by omega⟩
        have hq2 : a1 - (k + 1) = q := by omega
        have HT := Lib.hid fun W => take_whole (N := q) HLV.out HLO.out ht Z32.out (HR.out.trans (congrArg fN hq)) (by omega) W
        have HN2 : Hid (roomW lv mo (fN q) (ageN 0 0) = fN (a1 - (k + 1))) := by
          rw [age_self, hq2]
          exact HRM.out q (by omega)
        have HE2 : Hid (∀ y, y = fN q → y = fN (a1 - (k + 1)) ∧ (0 : Nat) = 0) := fun y hy => by rw [hy]; exact ⟨by rw [hq2], rfl⟩
        clear HR hq hq2 HE
        obtain ⟨y, hy⟩ : ∃ y, y = fN q := ⟨_, rfl⟩
        have HE3 := Lib.hid (HE2.out y hy)
        rw [← hy] at HT HN2
        clear hy HE2
        go_wp2_with fail
        refine (HT.out _).mono ?_
        rintro e w1 ⟨rfl, hb⟩
        have HG1 := Lib.hid (HG.out.call hb)
        have HB1 := Lib.hid (HB.out.trans (hb.mono HB.out.size))
        have hz1 := hb.size
        clear hb k0 k1 k2 k3 kf
        obtain ⟨hg1, k0', k1', k2', k3', kf'⟩ := HG1.out
        have k0 : ∀ o, (w1.alloc o).cell? ⟨g, 0, none⟩ = some (.float .f64 lv) := fun o => (World.cell?_alloc_lt _ _ _ (by show g < _; omega)).trans k0'
        have k1 : ∀ v o, ((w1.setCell ⟨g, 0, none⟩ v).alloc o).cell? ⟨g, 1, none⟩ = some (.float .f64 mo) := fun v o => (World.cell?_alloc_lt _ _ _ (by show g < _; simpa using hg1)).trans (by simp [go_sem, k1'])
        have k2 : ∀ v u o, (((w1.setCell ⟨g, 0, none⟩ v).setCell ⟨g, 1, none⟩ u).alloc o).cell? ⟨g, 2, none⟩ = some (.float .f64 x) := fun v u o => (World.cell?_alloc_lt _ _ _ (by show g < _; simpa using hg1)).trans (by simp [go_sem, k2'])
        have k3 : ∀ v u y o, ((((w1.setCell ⟨g, 0, none⟩ v).setCell ⟨g, 1, none⟩ u).setCell ⟨g, 2, none⟩ y).alloc o).cell? ⟨g, 3, none⟩ = some (.int .u32 (t : Int)) := fun v u y o => (World.cell?_alloc_lt _ _ _ (by show g < _; simpa using hg1)).trans (by simp [go_sem, k3'])
        have f0 : ∀ o i, (w1.alloc o).frozen? ⟨g, i, none⟩ = false := fun o i => frozen_alloc kf' hg1 o i
        have f1 : ∀ v o i, ((w1.setCell ⟨g, 0, none⟩ v).alloc o).frozen? ⟨g, i, none⟩ = false := fun v o i => frozen_alloc (fun o => by simp [go_sem, kf']) (by simpa using hg1) o i
        have f2 : ∀ v u o i, (((w1.setCell ⟨g, 0, none⟩ v).setCell ⟨g, 1, none⟩ u).alloc o).frozen? ⟨g, i, none⟩ = false := fun v u o i => frozen_alloc (fun o => by simp [go_sem, kf']) (by simpa using hg1) o i
        have f3 : ∀ v u y o i, ((((w1.setCell ⟨g, 0, none⟩ v).setCell ⟨g, 1, none⟩ u).setCell ⟨g, 2, none⟩ y).alloc o).frozen? ⟨g, i, none⟩ = false := fun v u y o i => frozen_alloc (fun o => by simp [go_sem, kf']) (by simpa using hg1) o i
        have ne1 : ¬ w1.heap.size = g := by omega
        have ne2 : ¬ g = w1.heap.size := by omega
        have hw1 := HB1.out.size
        clear k0' k1' k2' k3' kf'
        go_wp2
        go_roundw
        case rel =>
          exact ⟨k + 1, y, 0, by omega, by go_num, Z32.out, HN2, ⟨HE3.out.1, rfl⟩, (HG1.out.set _ _ _ _).alloc _, (setG_below HB1.out HGL.out _ _ _ _).alloc (by rw [setG_size]; omega) _⟩
        case measure => simp [intOf]; omega
      · have hkN : a1 - k = 0 := by omega
        have HT := Lib.hid fun W => take_nought HLV.out HLO.out ht Z32.out (HR.out.trans (congrArg fN hkN)) W
        have : a1 = k := by omega
        subst this
        obtain ⟨y, hy⟩ : ∃ y, y = fN 0 := ⟨_, rfl⟩
        rw [← hy] at HT
        clear hy HR hkN hlt
        go_wp2_with fail
        refine (HT.out _).mono ?_
        rintro e w1 ⟨rfl, hb⟩
        have HG1 := Lib.hid (HG.out.call hb)
        have HB1 := Lib.hid (HB.out.trans (hb.mono HB.out.size))
        have hz1 := HB1.out.size
        clear hb k0 k1 k2 k3 kf HG HB hgl
        obtain ⟨hx, rfl⟩ := HE.out
        have HS2 : Hid (roomW lv mo x (ageN a2 0) = fN (a1 - 0)) := by
          rw [hx, Nat.sub_self, age_small (by omega), Nat.sub_zero]
          exact HRB.out
        clear HE hx
        go_wp2
        go_loopw [11] (fun i wr => ∃ k x t : Nat, k ≤ a1 ∧ i = .int .i64 k ∧ t < 4294967296 ∧ Hid (roomW lv mo x (ageN a2 t) = fN (a1 - k)) ∧ Hid (True) ∧ Hid (GAt wr g lv mo x t) ∧ Hid (Below W.heap.size W wr)) (fun i _ => a1 + 1 - (intOf i).toNat)
        case atStart => exact ⟨0, x, 0, by omega, rfl, by omega, HS2, trivial, HG1.out.alloc _, HB1.out.alloc (by omega) _⟩
        case round =>
          obtain ⟨k, x, t, hk, rfl, ht, HR, HE, HG, HB⟩ := hrel
          obtain ⟨hgl, k0, k1, k2, k3, kf⟩ := HG.out
          have g6 : (k : Int) < 600 := by omega
          by_cases hlt : k < a1
          · obtain ⟨q, hq⟩ : ∃ q, a1 - k = q + 1 := ⟨a1 - k - 1, by omega⟩
            have hq2 : a1 - (k + 1) = q := by omega
            have HT := Lib.hid fun W => take_whole (N := q) HLV.out HLO.out ht A2L.out (HR.out.trans (congrArg fN hq)) (by omega) W
            have HN2 : Hid (roomW lv mo (fN q) (ageN a2 a2) = fN (a1 - (k + 1))) := by
              rw [age_self, hq2]
              exact HRM.out q (by omega)
            have HE2 : Hid (∀ y, y = fN q → True) := fun y hy => trivial
            clear HR hq hq2 HE
            obtain ⟨y, hy⟩ : ∃ y, y = fN q := ⟨_, rfl⟩
            have HE3 := Lib.hid (HE2.out y hy)
            rw [← hy] at HT HN2
            clear hy HE2
            go_wp2_with fail
            refine (HT.out _).mono ?_
            rintro e w1 ⟨rfl, hb⟩
            have HG1 := Lib.hid (HG.out.call hb)
            have HB1 := Lib.hid (HB.out.trans (hb.mono HB.out.size))
            have hz1 := hb.size
            clear hb k0 k1 k2 k3 kf
            obtain ⟨hg1, k0', k1', k2', k3', kf'⟩ := HG1.out
            have k0 : ∀ o, (w1.alloc o).cell? ⟨g, 0, none⟩ = some (.float .f64 lv) := fun o => (World.cell?_alloc_lt _ _ _ (by show g < _; omega)).trans k0'
            have k1 : ∀ v o, ((w1.setCell ⟨g, 0, none⟩ v).alloc o).cell? ⟨g, 1, none⟩ = some (.float .f64 mo) := fun v o => (World.cell?_alloc_lt _ _ _ (by show g < _; simpa using hg1)).trans (by simp [go_sem, k1'])
            have k2 : ∀ v u o, (((w1.setCell ⟨g, 0, none⟩ v).setCell ⟨g, 1, none⟩ u).alloc o).cell? ⟨g, 2, none⟩ = some (.float .f64 x) := fun v u o => (World.cell?_alloc_lt _ _ _ (by show g < _; simpa using hg1)).trans (by simp [go_sem, k2'])
            have k3 : ∀ v u y o, ((((w1.setCell ⟨g, 0, none⟩ v).setCell ⟨g, 1, none⟩ u).setCell ⟨g, 2, none⟩ y).alloc o).cell? ⟨g, 3, none⟩ = some (.int .u32 (t : Int)) := fun v u y o => (World.cell?_alloc_lt _ _ _ (by show g < _; simpa using hg1)).trans (by simp [go_sem, k3'])
            have f0 : ∀ o i, (w1.alloc o).frozen? ⟨g, i, none⟩ = false := fun o i => frozen_alloc kf' hg1 o i
            have f1 : ∀ v o i, ((w1.setCell ⟨g, 0, none⟩ v).alloc o).frozen? ⟨g, i, none⟩ = false := fun v o i => frozen_alloc (fun o => by simp [go_sem, kf']) (by simpa using hg1) o i
            have f2 : ∀ v u o i, (((w1.setCell ⟨g, 0, none⟩ v).setCell ⟨g, 1, none⟩ u).alloc o).frozen? ⟨g, i, none⟩ = false := fun v u o i => frozen_alloc (fun o => by simp [go_sem, kf']) (by simpa using hg1) o i
            have f3 : ∀ v u y o i, ((((w1.setCell ⟨g, 0, none⟩ v).setCell ⟨g, 1, none⟩ u).setCell ⟨g, 2, none⟩ y).alloc o).frozen? ⟨g, i, none⟩ = false := fun v u y o i => frozen_alloc (fun o => by simp [go_sem, kf']) (by simpa using hg1) o i
            have ne1 : ¬ w1.heap.size = g := by omega
            have ne2 : ¬ g = w1.heap.size := by omega
            have hw1 := HB1.out.size
            clear k0' k1' k2' k3' kf'
            go_wp2
            go_roundw
            case rel =>
              exact ⟨k + 1, y, a2, by omega, by go_num, A2L.out, HN2, trivial, (HG1.out.set _ _ _ _).alloc _, (setG_below HB1.out HGL.out _ _ _ _).alloc (by rw [setG_size]; omega) _⟩
            case measure => simp [intOf]; omega
          · have hkN : a1 - k = 0 := by omega
            have HT := Lib.hid fun W => take_nought HLV.out HLO.out ht A2L.out (HR.out.trans (congrArg fN hkN)) W
            have : a1 = k := by omega
            subst this
            obtain ⟨y, hy⟩ : ∃ y, y = fN 0 := ⟨_, rfl⟩
            rw [← hy] at HT
            clear hy HR hkN hlt
            go_wp2_with fail
            refine (HT.out _).mono ?_
            rintro e w1 ⟨rfl, hb⟩
            have HG1 := Lib.hid (HG.out.call hb)
            have HB1 := Lib.hid (HB.out.trans (hb.mono HB.out.size))
            have hz1 := HB1.out.size
            clear hb k0 k1 k2 k3 kf HG HB hgl
            go_wp2_with fail
            refine (HTOLD.out _).mono ?_
            rintro e w4 ⟨rfl, hb⟩
            have HB4 := Lib.hid ((HB1.out.alloc (by omega) _).trans (hb.mono (by simp; omega)))
            clear hb
            go_wp2
            all_goals go_ret
            all_goals exact ⟨by simp, HB4.out⟩

set_option maxRecDepth 100000 in
/-- What the walk gives, for every argument: the row's own words. -/
theorem contract (H : Type) (enc : TypeId × Value → H) (W : World) (base : Nat) (args : Array Value) (ds gs : List (DataW H)) (before : List MemPlace)
    (hval : ∀ (j : Nat) t v, Try.f8.params[j]? = some t → args[j]? = some v → Value.okWide Try.prog W .any base t v)
    (hW : DataW.Whole enc Try.prog Try.f8.params.toList Rows.gaugeFillsSpec.vars false W args.toList ds gs before) :
    Calls Try.prog 8 args W fun e W' => ∃ v, e = .returned v ∧ Rows.gaugeFillsSpec.post enc Try.prog Try.f8 false true false false W args v W' := by
  have hW' := hW
  obtain ⟨p, q, hA0, hV, rfl, hfz, hnd⟩ := hW
  have hA : DataW.TrodAll enc Try.prog W 0 (fun _ => true) true Try.f8.params.toList args.toList ds p := hA0
  rw [Try.params8] at hA hval
  obtain ⟨v0, vs0, d0, ds0, p0, q0, hargs, rfl, rfl, h0, r0⟩ := trodAll_cons hA
  obtain ⟨v1, vs1, d1, ds1, p1, q1, rfl, rfl, rfl, h1, r1⟩ := trodAll_cons r0
  obtain ⟨v2, vs2, d2, ds2, p2, q2, rfl, rfl, rfl, h2, r2⟩ := trodAll_cons r1
  obtain ⟨rfl, rfl, rfl⟩ := trodAll_nil r2
  obtain rfl : args = #[v0, v1, v2] := by cases args; simp_all
  obtain ⟨a0, rfl, b0⟩ := open_u8 Try.underlying5 (hval 0 5 v0 rfl rfl) h0
  obtain ⟨a1, rfl, b1⟩ := open_u8 Try.underlying5 (hval 1 5 v1 rfl rfl) h1
  obtain ⟨a2, rfl, b2⟩ := open_u8 Try.underlying5 (hval 2 5 v2 rfl rfl) h2
  refine (walk W a0 b0 a1 b1 a2 b2).mono fun e W' ⟨he, hb⟩ => ?_
  subst he
  exact close_true (by kernel_rfl) Try.underlying4 (by kernel_rfl) (by kernel_rfl) rfl rfl hW' hb

set_option maxRecDepth 100000 in
theorem lifted (os : Os) (started : os.Started) (H : Type) (enc : TypeId × Value → H) :
    ReturnsInHanded {} Try.checked os 8 .any (Rows.gaugeFillsSpec.pre6 enc Try.prog Try.f8 Rows.gaugeFillsRow.domain false) (Rows.gaugeFillsSpec.post enc Try.prog Try.f8 false true false false) := by
  refine returnsInHanded_of_change (C := Try.checked) own started (by kernel_rfl) Try.func8
    (ChangeSpec.witness6 (enc := enc) (C := Try.checked) false ⟨#[], #[.int .u8 0, .int .u8 0, .int .u8 0], []⟩ 8 (by kernel_rfl) (by kernel_rfl) (by kernel_rfl) (by kernel_rfl)) ?_
  intro W base args ds gs before hval hW _ _
  exact contract H enc W base args ds gs before hval hW

theorem proved : Rows.GaugeFillsSaid :=
  OpenClaim.holds_of_wide 8 Try.f8 rfl rfl rfl rfl rfl rfl rfl ⟨rfl, rfl, rfl, rfl, rfl⟩ rfl rfl rfl rfl rfl (by kernel_rfl) Try.func8 (by kernel_rfl)
    (of_decide_eq_true (by kernel_rfl)) (by unfold Func.isWrapper; first | (rw [if_pos (by decide +kernel)]; kernel_rfl) | (rw [if_neg (by decide +kernel)]; exact ⟨rfl, rfl⟩))
    (fun os started H enc _ => lifted os started H enc)
#print axioms proved
end Go.Proofs.Ytdgjgddobjhekaa.gaugeFills
