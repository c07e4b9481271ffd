/-
  A gauge whose level is no number, or infinite, lets all come, whatever else it has; its room stays. No condition.
-/
import Derived.Test.YtdgjgddobjhekaaRows
import Derived.Test.YtdgjgddobjhekaaGaugeZ
import Derived.Test.YtdgjgddobjhekaaBase
import Derived.Test.YtdgjgddobjhekaaWords
import Derived.Test.YtdgjgddobjhekaaOpenGa
import Derived.Deep.RegionHeld3
import Derived.WalkKit
import Derived.ProofKit
import Derived.OpenShut
namespace Go.Proofs.Ytdgjgddobjhekaa.gaugeOpens
open Go.ChangeShapes Go.WideShapes Go.ChangeAt Go.RowKit
open Go.ChangeMaps (open_string)
set_option linter.unusedVariables false

theorem own : ownKnob Try.prog.godebug = none := by kernel_rfl
theorem frozen_alloc {w : World} {b : Nat} (h : ∀ o, w.frozen? ⟨b, o, none⟩ = false) (hb : b < w.heap.size) (obj : Obj) (o : Nat) : (w.alloc obj).frozen? ⟨b, o, none⟩ = false := by
  have := (bcell ((Below.refl w.heap.size w).alloc (Nat.le_refl _) obj)).2 b o hb
  rw [this]; exact h o

set_option maxRecDepth 20000 in
set_option maxHeartbeats 25600000 in
theorem walk (W : World) (a0 m0 r0 k0 : Nat) (b0 : a0 < 18446744073709551616) (bm0 : m0 < 18446744073709551616) (br0 : r0 < 18446744073709551616) (bk0 : k0 < 4294967296) (a1 : Value) (l1 : List Nat) (b1 : Sl W W.heap.size 1 a1 l1.length (uv l1)) (c1 : ∀ x ∈ l1, x < 4294967296) (a2 : Bool) :
    Calls Try.prog 7 #[.agg #[.float .f64 a0, .float .f64 m0, .float .f64 r0, .int .u32 (k0 : Int)], a1, .bool a2] W (Says (.bool true) W) := by
  have hst := st_float
  obtain ⟨mo, hmo⟩ : ∃ mo, mo = m0 := ⟨_, rfl⟩
  obtain ⟨x, hx⟩ : ∃ x, x = r0 := ⟨_, rfl⟩
  subst hmo hx
  have hmul := fun W => run_float_arith (P := Try.prog) W .mul 22 .f64 _ _ _ inf_run
  obtain ⟨W1, hW1⟩ : ∃ W1, W1 = W.alloc (.cells #[.float .f64 9218868437227405312, .float .f64 mo, .float .f64 x, .int .u32 (k0 : Int)] 35) := ⟨_, rfl⟩
  obtain ⟨cn, hn1, hn2, hsub⟩ := run_float_nan (P := Try.prog) W1 .sub 22 9218868437227405312 9218868437227405312 (.inr (.inl rfl)) (sub_self_inf (by decide))
  rw [hW1] at hsub
  clear hW1
  have HN1 := Lib.hid hn1
  have HN2 := Lib.hid hn2
  have hsm := fun W => ref5_Same x x br0 br0 W
  rw [cmpW_self, show ((0 : Int) == 0) = true from rfl] at hsm
  have HSM := Lib.hid hsm
  have HK0 := Lib.hid bk0
  obtain ⟨A, cap, rfl, h1, h2⟩ := b1.form
  unfold maxLen at h2
  obtain ⟨n, hn⟩ : ∃ n, n = l1.length := ⟨_, rfl⟩
  rw [← hn] at b1 h1 ⊢
  have HTK : Hid (0 < n → ∃ b off, A = some ⟨b, off, none⟩ ∧ b < W.heap.size ∧ ∀ i, i < n → W.cell? ⟨b, off + i, none⟩ = some (.int .u32 (l1.getD i 0 : Nat))) := fun hp => by
    obtain ⟨b, off, cap', hv, _, _, hbb, _, hc⟩ := b1.wordAt hp
    injection hv with q1 q2 q3
    exact ⟨b, off, q1, hbb, fun i hi => hc i hi⟩
  have HL2 : Hid (∀ i, l1.getD i 0 < 4294967296) := fun i => word_lt c1 i
  obtain ⟨K, hK⟩ : ∃ K, K = min n 100 := ⟨_, rfl⟩
  have hK1 : K ≤ n := by omega
  have hK2 : K ≤ 100 := by omega
  have HNN : Hid (∀ k, k ≤ K → ¬ k < K → (n ≤ k ∨ 100 ≤ k)) := fun k a b => by omega
  clear b1 c1 hK hn b0 bm0 br0 bk0 hsm hn1 hn2
  cases a2
  · have HTO := Lib.hid fun w => law5_To 9218868437227405312 mo x k0 w
    have HOPN : Hid (openW 9218868437227405312 = true) := inf_open
    have HLVN : Hid (9218868437227405312 < 18446744073709551616) := by show (9218868437227405312 : Nat) < _; omega
    go_enter Try.func7, Try.ntmps7
    go_wp2_with fail
    refine (HTO.out _).mono ?_
    rintro e w1 ⟨rfl, hb⟩
    have hbx : Below W.heap.size W w1 := Below.trans (by (repeat' (first | (with_reducible exact Below.refl _ _) | (with_reducible assumption) | (with_reducible refine Below.setCell ?_ ?_ _) | (with_reducible refine Below.alloc ?_ ?_ _) | (with_reducible refine below_drewN ?_ _) | (with_reducible refine Below.drew ?_) | go_size))) (hb.mono (by go_size))
    have hz1 : W.heap.size + 1 ≤ w1.heap.size := by have := hb.size; simpa using this
    have s2 : w1.cell? ⟨W.heap.size, 2, none⟩ = some (.float .f64 x) := by rw [(bcell hb).1 _ _ (by simp)]; simp [go_sem]
    obtain ⟨g, hg⟩ : ∃ g, g = w1.heap.size := ⟨_, rfl⟩
    have HGL : Hid (W.heap.size ≤ g) := by show W.heap.size ≤ g; rw [hg]; omega
    have hgw : W.heap.size < g := by rw [hg]; omega
    obtain ⟨w2, hw2⟩ : ∃ w2, w2 = w1.alloc (.cells #[.float .f64 9218868437227405312, .float .f64 mo, .float .f64 x, .int .u32 (k0 : Int)] 37) := ⟨_, rfl⟩
    have HG0 : Hid (GAt w2 g 9218868437227405312 mo x k0) := by rw [hw2, hg]; exact GAt.new
    have HB0 : Hid (Below W.heap.size W w2) := by rw [hw2]; exact hbx.alloc hbx.size _
    have HS0 : Hid (w2.cell? ⟨W.heap.size, 2, none⟩ = some (.float .f64 x)) := by rw [hw2]; exact (World.cell?_alloc_lt _ _ _ (by show W.heap.size < _; omega)).trans s2
    clear hb hbx hz1 s2 HTO hmul hsub
    go_wp2
    rw [← hw2]
    (try rw [← hg])
    clear hw2 hg
    obtain ⟨lv, hlv⟩ : ∃ lv, lv = 9218868437227405312 := ⟨_, rfl⟩
    rw [← hlv] at HG0
    have HOP := Lib.hid (HOPN.out)
    have HLV := Lib.hid (HLVN.out)
    rw [← hlv] at HOP HLV
    clear hlv HOPN HLVN
    go_loopw [10] (fun i wr => ∃ k t : Nat, k ≤ K ∧ i = .int .i64 k ∧ t < 4294967296 ∧ Hid (GAt wr g lv mo x t) ∧ Hid (wr.cell? ⟨W.heap.size, 2, none⟩ = some (.float .f64 x)) ∧ Hid (Below W.heap.size W wr)) (fun i _ => K - (intOf i).toNat)
    case atStart => exact ⟨0, k0, by omega, rfl, HK0.out, HG0, HS0, HB0⟩
    case round =>
      obtain ⟨k, t, hk, rfl, ht, HG, HS, HB⟩ := hrel
      by_cases hlt : k < K
      · obtain ⟨b, off, rfl, hb0, hcell⟩ := HTK.out (by omega)
        obtain ⟨hgl, c0, c1, c2, c3, _⟩ := HG.out
        have hWw := HB.out.size
        obtain ⟨T, hT⟩ : ∃ T, T = l1.getD k 0 := ⟨_, rfl⟩
        have HTL : Hid (T < 4294967296) := by rw [hT]; exact HL2.out k
        have c4 : wr.cell? ⟨b, off + k, none⟩ = some (.int .u32 (T : Int)) := by rw [hT]; exact (HB.out.cell (p := ⟨b, off + k, none⟩) (by show b < _; omega)).trans (hcell k (by omega))
        clear hT hcell
        have g0 : (0 : Int) ≤ (k : Int) := Int.natCast_nonneg _
        have g1 : (k : Int) < (n : Int) := by omega
        have g2 : (k : Int) < 100 := by omega
        have HT := Lib.hid fun W => gauge_Take_open lv mo x t T HLV.out ht HTL.out HOP.out W
        unfold gV at HT
        go_wp2_with fail
        refine wp_region_held_drew (S := fun w' => w'.cell? ⟨g, 0, none⟩ = some (.float .f64 lv) ∧ w'.cell? ⟨g, 1, none⟩ = some (.float .f64 mo) ∧ w'.cell? ⟨g, 2, none⟩ = some (.float .f64 x) ∧ w'.cell? ⟨g, 3, none⟩ = some (.int .u32 (t : Int)) ∧ w'.cell? ⟨b, off + k, none⟩ = some (.int .u32 (T : Int))) (by kernel_rfl) ?_ (fun hHeld => ?_)
        · exact ⟨c0, c1, c2, c3, c4⟩
        refine wpAnyH_take (i := 0) (oi := { dst := some 35, op := Go.Op.load 37 (Go.Operand.tmp 9), type := 37, pos := "law.go:89", after := #[], guard := none }) (v := ?_) rfl (by kernel_rfl) (by kernel_rfl) (by kernel_rfl) (fun _ _ _ h => h) (Or.inl ⟨by rfl, ?_⟩) (by assumption) ?_
        rotate_left
        · intro w hSw
          (try dsimp only at hSw)
          go_simp
          try with_reducible rfl
        (try simp only [Act.put, List.setIfInBounds_toArray, List.set_cons_zero, List.set_cons_succ])
        refine wpAnyH_take (i := 1) (oi := { dst := some 36, op := Go.Op.move (Go.Operand.tmp 1), type := 36, pos := "law.go:89", after := #[], guard := none }) (v := ?_) rfl (by kernel_rfl) (by kernel_rfl) (by kernel_rfl) (fun _ _ _ h => h) (Or.inl ⟨by rfl, ?_⟩) (by assumption) ?_
        rotate_left
        · intro w hSw
          (try dsimp only at hSw)
          go_simp
          try with_reducible rfl
        (try simp only [Act.put, List.setIfInBounds_toArray, List.set_cons_zero, List.set_cons_succ])
        refine wpAnyH_take (i := 2) (oi := { dst := some 37, op := Go.Op.move (Go.Operand.tmp 10), type := 3, pos := "law.go:89", after := #[], guard := none }) (v := ?_) rfl (by kernel_rfl) (by kernel_rfl) (by kernel_rfl) (fun _ _ _ h => h) (Or.inl ⟨by rfl, ?_⟩) (by assumption) ?_
        rotate_left
        · intro w hSw
          (try dsimp only at hSw)
          go_simp
          try with_reducible rfl
        (try simp only [Act.put, List.setIfInBounds_toArray, List.set_cons_zero, List.set_cons_succ])
        refine wpAnyH_take (i := 3) (oi := { dst := some 38, op := Go.Op.indexAddr 36 (Go.Operand.tmp 36) (Go.Operand.tmp 37), type := 0, pos := "law.go:89", after := #[{ on := 1, ground := Go.Ground.data }, { on := 2, ground := Go.Ground.data }], guard := none }) (v := ?_) rfl (by kernel_rfl) (by kernel_rfl) (by kernel_rfl) (fun _ _ _ h => h) (Or.inl ⟨by rfl, ?_⟩) (by assumption) ?_
        rotate_left
        · intro w hSw
          (try dsimp only at hSw)
          go_simp
          try with_reducible rfl
        (try simp only [Act.put, List.setIfInBounds_toArray, List.set_cons_zero, List.set_cons_succ])
        refine wpAnyH_take (i := 4) (oi := { dst := some 39, op := Go.Op.load 33 (Go.Operand.tmp 38), type := 33, pos := "law.go:89", after := #[{ on := 3, ground := Go.Ground.data }], guard := none }) (v := ?_) rfl (by kernel_rfl) (by kernel_rfl) (by kernel_rfl) (fun _ _ _ h => h) (Or.inl ⟨by rfl, ?_⟩) (by assumption) ?_
        rotate_left
        · intro w hSw
          (try dsimp only at hSw)
          go_simp
          try with_reducible rfl
        (try simp only [Act.put, List.setIfInBounds_toArray, List.set_cons_zero, List.set_cons_succ])
        refine wpAnyH_ready (rs := [5, 9]) (by kernel_rfl) (by simp) ?_
        refine (AllReadyH.cons (o := { dst := some 40, op := Go.Op.call { callee := Go.Callee.value (Go.Operand.func 27), args := #[Go.Operand.tmp 35, Go.Operand.tmp 39], argTypes := #[37, 33] }, type := 46, pos := "law.go:89", after := #[{ on := 0, ground := Go.Ground.data }, { on := 4, ground := Go.Ground.data }], guard := none }) rfl (fun K hK => ?_) (AllReadyH.cons (o := { dst := some 11, op := Go.Op.alloc 37, type := 0, pos := "law.go:89", after := #[], guard := none }) rfl (fun K hK => ?_) AllReadyH.nil))
        · go_simp
          refine ((HT).out _).mono ?_
          rintro e w1 ⟨rfl, hb⟩
          have hbd : Below wr.heap.size wr w1 := ((Below.refl wr.heap.size wr).drew).trans hb
          refine hK.out _ _ ?_ (fun hHeld => ?_)
          · (try dsimp only)
            obtain ⟨c0, c1, c2, c3, c4⟩ := hHeld
            exact ⟨(hb.cell (p := ⟨g, _, none⟩) (by show g < wr.heap.size; omega)).trans c0, (hb.cell (p := ⟨g, _, none⟩) (by show g < wr.heap.size; omega)).trans c1, (hb.cell (p := ⟨g, _, none⟩) (by show g < wr.heap.size; omega)).trans c2, (hb.cell (p := ⟨g, _, none⟩) (by show g < wr.heap.size; omega)).trans c3, (hb.cell (p := ⟨b, _, none⟩) (by show b < wr.heap.size; omega)).trans c4⟩
          clear hK K
          (try simp only [Act.put, List.setIfInBounds_toArray, List.set_cons_zero, List.set_cons_succ])
          refine wpAnyH_take (i := 6) (oi := { dst := some 34, op := Go.Op.move (Go.Operand.tmp 40), type := 46, pos := "law.go:89", after := #[{ on := 5, ground := Go.Ground.data }], guard := none }) (v := ?_) rfl (by kernel_rfl) (by kernel_rfl) (by kernel_rfl) (fun _ _ _ h => h) (Or.inl ⟨by rfl, ?_⟩) (by assumption) ?_
          rotate_left
          · intro w hSw
            (try dsimp only at hSw)
            go_simp
            try with_reducible rfl
          (try simp only [Act.put, List.setIfInBounds_toArray, List.set_cons_zero, List.set_cons_succ])
          refine wpAnyH_take (i := 7) (oi := { dst := some 41, op := Go.Op.extract (Go.Operand.tmp 34) 0, type := 37, pos := "law.go:89", after := #[{ on := 6, ground := Go.Ground.data }], guard := none }) (v := ?_) rfl (by kernel_rfl) (by kernel_rfl) (by kernel_rfl) (fun _ _ _ h => h) (Or.inl ⟨by rfl, ?_⟩) (by assumption) ?_
          rotate_left
          · intro w hSw
            (try dsimp only at hSw)
            go_simp
            try with_reducible rfl
          (try simp only [Act.put, List.setIfInBounds_toArray, List.set_cons_zero, List.set_cons_succ])
          refine wpAnyH_take (i := 8) (oi := { dst := some 42, op := Go.Op.extract (Go.Operand.tmp 34) 1, type := 4, pos := "law.go:89", after := #[{ on := 6, ground := Go.Ground.data }, { on := 10, ground := Go.Ground.gcOnly Go.Departure.lateStores }], guard := none }) (v := ?_) rfl (by kernel_rfl) (by kernel_rfl) (by kernel_rfl) (fun _ _ _ h => h) (Or.inl ⟨by rfl, ?_⟩) (by assumption) ?_
          rotate_left
          · intro w hSw
            (try dsimp only at hSw)
            go_simp
            try with_reducible rfl
          (try simp only [Act.put, List.setIfInBounds_toArray, List.set_cons_zero, List.set_cons_succ])
          refine wpAnyH_ready (rs := [9]) (by kernel_rfl) (by simp) ?_
          refine (AllReadyH.cons (o := { dst := some 11, op := Go.Op.alloc 37, type := 0, pos := "law.go:89", after := #[], guard := none }) rfl (fun K hK => ?_) AllReadyH.nil)
          go_simp

          refine hK.out _ _ ?_ (fun hHeld => ?_)
          · (try dsimp only)
            obtain ⟨c0, c1, c2, c3, c4⟩ := hHeld
            exact ⟨(World.cell?_alloc_lt _ _ _ (by show g < w1.heap.size; have := hbd.size; omega)).trans c0, (World.cell?_alloc_lt _ _ _ (by show g < w1.heap.size; have := hbd.size; omega)).trans c1, (World.cell?_alloc_lt _ _ _ (by show g < w1.heap.size; have := hbd.size; omega)).trans c2, (World.cell?_alloc_lt _ _ _ (by show g < w1.heap.size; have := hbd.size; omega)).trans c3, (World.cell?_alloc_lt _ _ _ (by show b < w1.heap.size; have := hbd.size; omega)).trans c4⟩
          clear hK K
          (try simp only [Act.put, List.setIfInBounds_toArray, List.set_cons_zero, List.set_cons_succ])
          refine wpAnyH_ready (rs := [10]) (by kernel_rfl) (by simp) ?_
          refine (AllReadyH.cons (o := { dst := none, op := Go.Op.store 37 (Go.Operand.tmp 11) (Go.Operand.tmp 41), type := 0, pos := "law.go:89", after := #[{ on := 9, ground := Go.Ground.data }, { on := 7, ground := Go.Ground.data }, { on := 5, ground := Go.Ground.chain }, { on := 0, ground := Go.Ground.phase }, { on := 1, ground := Go.Ground.phase }, { on := 2, ground := Go.Ground.phase }, { on := 3, ground := Go.Ground.phase }, { on := 4, ground := Go.Ground.phase }, { on := 5, ground := Go.Ground.phase }, { on := 6, ground := Go.Ground.phase }, { on := 7, ground := Go.Ground.phase }, { on := 8, ground := Go.Ground.textOnly Go.Departure.lateStores }, { on := 9, ground := Go.Ground.phase }], guard := none }) rfl (fun K hK => ?_) AllReadyH.nil)
          go_simp

          refine hK.out _ _ ?_ (fun hHeld => ?_)
          · (try dsimp only)
            obtain ⟨_, u0, u1, u2, u3, _⟩ := HG.out.call hbd
            have hs1 := hbd.size
            exact ⟨(World.cell?_alloc_lt _ _ _ (by show g < w1.heap.size; omega)).trans u0, (World.cell?_alloc_lt _ _ _ (by show g < w1.heap.size; omega)).trans u1, (World.cell?_alloc_lt _ _ _ (by show g < w1.heap.size; omega)).trans u2, (World.cell?_alloc_lt _ _ _ (by show g < w1.heap.size; omega)).trans u3, (World.cell?_alloc_lt _ _ _ (by show b < w1.heap.size; omega)).trans ((hbd.cell (p := ⟨b, off + k, none⟩) (by show b < wr.heap.size; omega)).trans c4)⟩
          clear hK K
          (try simp only [Act.put, List.setIfInBounds_toArray, List.set_cons_zero, List.set_cons_succ])
          refine wpAnyH_take (i := 11) (oi := { dst := some 12, op := Go.Op.assign (Go.Operand.tmp 42), type := 4, pos := "law.go:89", after := #[{ on := 8, ground := Go.Ground.data }, { on := 10, ground := Go.Ground.chain }, { on := 0, ground := Go.Ground.phase }, { on := 1, ground := Go.Ground.phase }, { on := 2, ground := Go.Ground.phase }, { on := 3, ground := Go.Ground.phase }, { on := 4, ground := Go.Ground.phase }, { on := 5, ground := Go.Ground.phase }, { on := 6, ground := Go.Ground.phase }, { on := 7, ground := Go.Ground.phase }, { on := 8, ground := Go.Ground.phase }, { on := 9, ground := Go.Ground.phase }, { on := 10, ground := Go.Ground.phase }], guard := none }) (v := ?_) rfl (by kernel_rfl) (by kernel_rfl) (by kernel_rfl) (fun _ _ _ h => h) (Or.inl ⟨by rfl, ?_⟩) (by assumption) ?_
          rotate_left
          · intro w hSw
            (try dsimp only at hSw)
            go_simp
            try with_reducible rfl
          (try simp only [Act.put, List.setIfInBounds_toArray, List.set_cons_zero, List.set_cons_succ])
          refine wpAnyH_done (by kernel_rfl) ?_ _
          obtain ⟨w2, hw2⟩ : ∃ w2, w2 = w1.alloc (.cells #[.float .f64 lv, .float .f64 mo, .float .f64 x, .int .u32 (T : Int)] 37) := ⟨_, rfl⟩
          have hzz := hbd.size
          have HG1 : Hid (GAt w2 g lv mo x t) := by rw [hw2]; exact (HG.out.call hbd).alloc _
          have HB1 : Hid (Below W.heap.size W w2) := by rw [hw2]; exact (HB.out.trans (hbd.mono HB.out.size)).alloc (by have := HB.out.size; omega) _
          obtain ⟨h, hh⟩ : ∃ h, h = w1.heap.size := ⟨_, rfl⟩
          have HH1 : Hid (GAt w2 h lv mo x T) := by rw [hw2, hh]; exact GAt.new
          have hne : g ≠ h := by rw [hh]; omega
          have HBR : Hid (Below wr.heap.size wr w2) := by rw [hw2]; exact hbd.alloc hbd.size _
          try rw [← hh]
          rw [← hw2]
          clear hw2 hh hbd hb hHeld
          obtain ⟨hh2, _, _, j2, j3, _⟩ := HH1.out
          have hz2 := HBR.out.size
          have s2 : w2.cell? ⟨W.heap.size, 2, none⟩ = some (.float .f64 x) := (HBR.out.cell (p := ⟨W.heap.size, 2, none⟩) (by show W.heap.size < wr.heap.size; omega)).trans HS.out
          have j4 : w2.cell? ⟨b, off + k, none⟩ = some (.int .u32 (T : Int)) := (HBR.out.cell (p := ⟨b, off + k, none⟩) (by show b < wr.heap.size; omega)).trans c4
          have hTT : ((T : Int) != (T : Int)) = false := by simp
          clear HG HB c0 c1 c2 c3 c4 HS
          go_wp2_with fail
          refine wp_region_held_drew (S := fun w' => w'.cell? ⟨h, 2, none⟩ = some (.float .f64 x) ∧ w'.cell? ⟨h, 3, none⟩ = some (.int .u32 (T : Int)) ∧ w'.cell? ⟨W.heap.size, 2, none⟩ = some (.float .f64 x) ∧ w'.cell? ⟨b, off + k, none⟩ = some (.int .u32 (T : Int))) (by kernel_rfl) ?_ (fun hHeld => ?_)
          · exact ⟨j2, j3, s2, j4⟩
          refine wpAnyH_take (i := 0) (oi := { dst := some 43, op := Go.Op.move (Go.Operand.tmp 12), type := 4, pos := "law.go:90", after := #[], guard := none }) (v := ?_) rfl (by kernel_rfl) (by kernel_rfl) (by kernel_rfl) (fun _ _ _ h => h) (Or.inl ⟨by rfl, ?_⟩) (by assumption) ?_
          rotate_left
          · intro w hSw
            (try dsimp only at hSw)
            go_simp
            try with_reducible rfl
          (try simp only [Act.put, List.setIfInBounds_toArray, List.set_cons_zero, List.set_cons_succ])
          refine wpAnyH_take (i := 1) (oi := { dst := some 44, op := Go.Op.unOp Go.UnOp.not 4 (Go.Operand.tmp 43), type := 4, pos := "law.go:90", after := #[{ on := 0, ground := Go.Ground.data }], guard := none }) (v := ?_) rfl (by kernel_rfl) (by kernel_rfl) (by kernel_rfl) (fun _ _ _ h => h) (Or.inl ⟨by rfl, ?_⟩) (by assumption) ?_
          rotate_left
          · intro w hSw
            (try dsimp only at hSw)
            go_simp
            try with_reducible rfl
          (try simp only [Act.put, List.setIfInBounds_toArray, List.set_cons_zero, List.set_cons_succ])
          refine wpAnyH_take (i := 2) (oi := { dst := some 45, op := Go.Op.move (Go.Operand.tmp 44), type := 4, pos := "law.go:90", after := #[{ on := 1, ground := Go.Ground.data }], guard := none }) (v := ?_) rfl (by kernel_rfl) (by kernel_rfl) (by kernel_rfl) (fun _ _ _ h => h) (Or.inl ⟨by rfl, ?_⟩) (by assumption) ?_
          rotate_left
          · intro w hSw
            (try dsimp only at hSw)
            go_simp
            try with_reducible rfl
          (try simp only [Act.put, List.setIfInBounds_toArray, List.set_cons_zero, List.set_cons_succ])
          refine wpAnyH_take (i := 3) (oi := { dst := some 46, op := Go.Op.fieldAddr 37 (Go.Operand.tmp 11) 2, type := 0, pos := "law.go:90", after := #[{ on := 2, ground := Go.Ground.guard }], guard := some (2, false) }) (v := ?_) rfl (by kernel_rfl) (by kernel_rfl) (by kernel_rfl) (fun _ _ _ h => h) (Or.inl ⟨by rfl, ?_⟩) (by assumption) ?_
          rotate_left
          · intro w hSw
            (try dsimp only at hSw)
            go_simp
            try with_reducible rfl
          (try simp only [Act.put, List.setIfInBounds_toArray, List.set_cons_zero, List.set_cons_succ])
          refine wpAnyH_take (i := 4) (oi := { dst := some 47, op := Go.Op.load 22 (Go.Operand.tmp 46), type := 22, pos := "law.go:90", after := #[{ on := 3, ground := Go.Ground.data }, { on := 2, ground := Go.Ground.guard }], guard := some (2, false) }) (v := ?_) rfl (by kernel_rfl) (by kernel_rfl) (by kernel_rfl) (fun _ _ _ h => h) (Or.inl ⟨by rfl, ?_⟩) (by assumption) ?_
          rotate_left
          · intro w hSw
            (try dsimp only at hSw)
            go_simp
            try with_reducible rfl
          (try simp only [Act.put, List.setIfInBounds_toArray, List.set_cons_zero, List.set_cons_succ])
          refine wpAnyH_take (i := 5) (oi := { dst := some 48, op := Go.Op.fieldAddr 35 (Go.Operand.tmp 3) 2, type := 0, pos := "law.go:90", after := #[{ on := 2, ground := Go.Ground.guard }], guard := some (2, false) }) (v := ?_) rfl (by kernel_rfl) (by kernel_rfl) (by kernel_rfl) (fun _ _ _ h => h) (Or.inl ⟨by rfl, ?_⟩) (by assumption) ?_
          rotate_left
          · intro w hSw
            (try dsimp only at hSw)
            go_simp
            try with_reducible rfl
          (try simp only [Act.put, List.setIfInBounds_toArray, List.set_cons_zero, List.set_cons_succ])
          refine wpAnyH_take (i := 6) (oi := { dst := some 49, op := Go.Op.load 22 (Go.Operand.tmp 48), type := 22, pos := "law.go:90", after := #[{ on := 5, ground := Go.Ground.data }, { on := 2, ground := Go.Ground.guard }], guard := some (2, false) }) (v := ?_) rfl (by kernel_rfl) (by kernel_rfl) (by kernel_rfl) (fun _ _ _ h => h) (Or.inl ⟨by rfl, ?_⟩) (by assumption) ?_
          rotate_left
          · intro w hSw
            (try dsimp only at hSw)
            go_simp
            try with_reducible rfl
          (try simp only [Act.put, List.setIfInBounds_toArray, List.set_cons_zero, List.set_cons_succ])
          refine wpAnyH_ready (rs := [7]) (by kernel_rfl) (by simp) ?_
          refine AllReadyH.cons (o := { dst := some 50, op := Go.Op.call { callee := Go.Callee.value (Go.Operand.func 14), args := #[Go.Operand.tmp 47, Go.Operand.tmp 49], argTypes := #[22, 22] }, type := 4, pos := "law.go:90", after := #[{ on := 4, ground := Go.Ground.data }, { on := 6, ground := Go.Ground.data }, { on := 2, ground := Go.Ground.chain }, { on := 2, ground := Go.Ground.guard }], guard := some (2, false) }) rfl (fun K hK => ?_) AllReadyH.nil
          go_simp
          refine (HSM.out _).mono ?_
          rintro e w4 ⟨rfl, hb4⟩
          have hbd4 : Below w2.heap.size w2 w4 := ((Below.refl w2.heap.size w2).drew).trans hb4
          have HG4 := Lib.hid (HG1.out.call hbd4)
          have HH4 := Lib.hid (HH1.out.call hbd4)
          have HB4 := Lib.hid (HB1.out.trans (hbd4.mono HB1.out.size))
          have HS4 : Hid (w4.cell? ⟨W.heap.size, 2, none⟩ = some (.float .f64 x)) := (hbd4.cell (p := ⟨W.heap.size, 2, none⟩) (by show W.heap.size < w2.heap.size; omega)).trans s2
          have hz4 := hbd4.size
          refine hK.out _ _ ?_ (fun hHeld => ?_)
          · (try dsimp only)
            obtain ⟨q0, q1, q2, q3⟩ := hHeld
            exact ⟨(hb4.cell (p := ⟨h, _, none⟩) (by show h < w2.heap.size; omega)).trans q0, (hb4.cell (p := ⟨h, _, none⟩) (by show h < w2.heap.size; omega)).trans q1, (hb4.cell (p := ⟨W.heap.size, _, none⟩) (by show W.heap.size < w2.heap.size; omega)).trans q2, (hb4.cell (p := ⟨b, _, none⟩) (by show b < w2.heap.size; omega)).trans q3⟩
          clear hK K
          (try simp only [Act.put, List.setIfInBounds_toArray, List.set_cons_zero, List.set_cons_succ])
          refine wpAnyH_take (i := 8) (oi := { dst := some 51, op := Go.Op.unOp Go.UnOp.not 4 (Go.Operand.tmp 50), type := 4, pos := "law.go:90", after := #[{ on := 7, ground := Go.Ground.data }, { on := 2, ground := Go.Ground.guard }], guard := some (2, false) }) (v := ?_) rfl (by kernel_rfl) (by kernel_rfl) (by kernel_rfl) (fun _ _ _ h => h) (Or.inl ⟨by rfl, ?_⟩) (by assumption) ?_
          rotate_left
          · intro w hSw
            (try dsimp only at hSw)
            go_simp
            try with_reducible rfl
          (try simp only [Act.put, List.setIfInBounds_toArray, List.set_cons_zero, List.set_cons_succ])
          refine wpAnyH_take (i := 9) (oi := { dst := some 52, op := Go.Op.pick (Go.Operand.tmp 45) (Go.Operand.const (Go.Value.bool true)) (Go.Operand.tmp 51), type := 4, pos := "law.go:90", after := #[{ on := 2, ground := Go.Ground.data }, { on := 8, ground := Go.Ground.data }], guard := none }) (v := ?_) rfl (by kernel_rfl) (by kernel_rfl) (by kernel_rfl) (fun _ _ _ h => h) (Or.inl ⟨by rfl, ?_⟩) (by assumption) ?_
          rotate_left
          · intro w hSw
            (try dsimp only at hSw)
            go_simp
            try with_reducible rfl
          (try simp only [Act.put, List.setIfInBounds_toArray, List.set_cons_zero, List.set_cons_succ])
          refine wpAnyH_take (i := 10) (oi := { dst := some 53, op := Go.Op.move (Go.Operand.tmp 52), type := 4, pos := "law.go:90", after := #[{ on := 9, ground := Go.Ground.data }, { on := 7, ground := Go.Ground.chain }], guard := none }) (v := ?_) rfl (by kernel_rfl) (by kernel_rfl) (by kernel_rfl) (fun _ _ _ h => h) (Or.inl ⟨by rfl, ?_⟩) (by assumption) ?_
          rotate_left
          · intro w hSw
            (try dsimp only at hSw)
            go_simp
            try with_reducible rfl
          (try simp only [Act.put, List.setIfInBounds_toArray, List.set_cons_zero, List.set_cons_succ])
          refine wpAnyH_take (i := 11) (oi := { dst := some 54, op := Go.Op.fieldAddr 37 (Go.Operand.tmp 11) 3, type := 0, pos := "law.go:90", after := #[{ on := 10, ground := Go.Ground.guard }], guard := some (10, false) }) (v := ?_) rfl (by kernel_rfl) (by kernel_rfl) (by kernel_rfl) (fun _ _ _ h => h) (Or.inl ⟨by rfl, ?_⟩) (by assumption) ?_
          rotate_left
          · intro w hSw
            (try dsimp only at hSw)
            go_simp
            try with_reducible rfl
          (try simp only [Act.put, List.setIfInBounds_toArray, List.set_cons_zero, List.set_cons_succ])
          refine wpAnyH_take (i := 12) (oi := { dst := some 55, op := Go.Op.load 33 (Go.Operand.tmp 54), type := 33, pos := "law.go:90", after := #[{ on := 11, ground := Go.Ground.data }, { on := 10, ground := Go.Ground.guard }], guard := some (10, false) }) (v := ?_) rfl (by kernel_rfl) (by kernel_rfl) (by kernel_rfl) (fun _ _ _ h => h) (Or.inl ⟨by rfl, ?_⟩) (by assumption) ?_
          rotate_left
          · intro w hSw
            (try dsimp only at hSw)
            go_simp
            try with_reducible rfl
          (try simp only [Act.put, List.setIfInBounds_toArray, List.set_cons_zero, List.set_cons_succ])
          refine wpAnyH_take (i := 13) (oi := { dst := some 56, op := Go.Op.move (Go.Operand.tmp 1), type := 36, pos := "law.go:90", after := #[{ on := 10, ground := Go.Ground.guard }], guard := some (10, false) }) (v := ?_) rfl (by kernel_rfl) (by kernel_rfl) (by kernel_rfl) (fun _ _ _ h => h) (Or.inl ⟨by rfl, ?_⟩) (by assumption) ?_
          rotate_left
          · intro w hSw
            (try dsimp only at hSw)
            go_simp
            try with_reducible rfl
          (try simp only [Act.put, List.setIfInBounds_toArray, List.set_cons_zero, List.set_cons_succ])
          refine wpAnyH_take (i := 14) (oi := { dst := some 57, op := Go.Op.move (Go.Operand.tmp 10), type := 3, pos := "law.go:90", after := #[{ on := 10, ground := Go.Ground.guard }], guard := some (10, false) }) (v := ?_) rfl (by kernel_rfl) (by kernel_rfl) (by kernel_rfl) (fun _ _ _ h => h) (Or.inl ⟨by rfl, ?_⟩) (by assumption) ?_
          rotate_left
          · intro w hSw
            (try dsimp only at hSw)
            go_simp
            try with_reducible rfl
          (try simp only [Act.put, List.setIfInBounds_toArray, List.set_cons_zero, List.set_cons_succ])
          refine wpAnyH_take (i := 15) (oi := { dst := some 58, op := Go.Op.indexAddr 36 (Go.Operand.tmp 56) (Go.Operand.tmp 57), type := 0, pos := "law.go:90", after := #[{ on := 13, ground := Go.Ground.data }, { on := 14, ground := Go.Ground.data }, { on := 10, ground := Go.Ground.guard }], guard := some (10, false) }) (v := ?_) rfl (by kernel_rfl) (by kernel_rfl) (by kernel_rfl) (fun _ _ _ h => h) (Or.inl ⟨by rfl, ?_⟩) (by assumption) ?_
          rotate_left
          · intro w hSw
            (try dsimp only at hSw)
            go_simp
            try with_reducible rfl
          (try simp only [Act.put, List.setIfInBounds_toArray, List.set_cons_zero, List.set_cons_succ])
          refine wpAnyH_take (i := 16) (oi := { dst := some 59, op := Go.Op.load 33 (Go.Operand.tmp 58), type := 33, pos := "law.go:90", after := #[{ on := 15, ground := Go.Ground.data }, { on := 10, ground := Go.Ground.guard }], guard := some (10, false) }) (v := ?_) rfl (by kernel_rfl) (by kernel_rfl) (by kernel_rfl) (fun _ _ _ h => h) (Or.inl ⟨by rfl, ?_⟩) (by assumption) ?_
          rotate_left
          · intro w hSw
            (try dsimp only at hSw)
            go_simp
            try with_reducible rfl
          (try simp only [Act.put, List.setIfInBounds_toArray, List.set_cons_zero, List.set_cons_succ])
          refine wpAnyH_take (i := 17) (oi := { dst := some 60, op := Go.Op.binOp Go.BinOp.neq 33 (Go.Operand.tmp 55) (Go.Operand.tmp 59) 33, type := 4, pos := "law.go:90", after := #[{ on := 12, ground := Go.Ground.data }, { on := 16, ground := Go.Ground.data }, { on := 10, ground := Go.Ground.guard }], guard := some (10, false) }) (v := ?_) rfl (by kernel_rfl) (by kernel_rfl) (by kernel_rfl) (fun _ _ _ h => h) (Or.inl ⟨by rfl, ?_⟩) (by assumption) ?_
          rotate_left
          · intro w hSw
            (try dsimp only at hSw)
            go_simp
            try with_reducible rfl
          (try simp only [Act.put, List.setIfInBounds_toArray, List.set_cons_zero, List.set_cons_succ])
          refine wpAnyH_take (i := 18) (oi := { dst := some 61, op := Go.Op.pick (Go.Operand.tmp 53) (Go.Operand.const (Go.Value.bool true)) (Go.Operand.tmp 60), type := 4, pos := "law.go:90", after := #[{ on := 10, ground := Go.Ground.data }, { on := 17, ground := Go.Ground.data }], guard := none }) (v := ?_) rfl (by kernel_rfl) (by kernel_rfl) (by kernel_rfl) (fun _ _ _ h => h) (Or.inl ⟨by rfl, ?_⟩) (by assumption) ?_
          rotate_left
          · intro w hSw
            (try dsimp only at hSw)
            go_simp
            try with_reducible rfl
          (try simp only [Act.put, List.setIfInBounds_toArray, List.set_cons_zero, List.set_cons_succ])
          refine wpAnyH_done (by kernel_rfl) ?_ _
          clear hHeld hb4 hbd4 j2 j3 j4 s2 HG1 HH1 HB1 hTT
          obtain ⟨hg4, k0, k1, k2, k3, kf⟩ := HG4.out
          obtain ⟨hh4, j0, j1, j2, j3, jf⟩ := HH4.out
          go_wp2
          go_roundw
          case rel =>
            exact ⟨k + 1, T, by omega, by go_num, HTL.out, HG4.out.set _ _ _ _, ((setG_below (Below.refl g w4) (Nat.le_refl _) _ _ _ _).cell (p := ⟨W.heap.size, 2, none⟩) (by show W.heap.size < g; omega)).trans HS4.out, setG_below HB4.out HGL.out _ _ _ _⟩
          case measure => simp [intOf]; omega
        · go_simp

          refine hK.out _ _ ?_ (fun hHeld => ?_)
          · (try dsimp only)
            obtain ⟨c0, c1, c2, c3, c4⟩ := hHeld
            exact ⟨(World.cell?_alloc_lt _ _ _ (by show g < wr.heap.size; omega)).trans c0, (World.cell?_alloc_lt _ _ _ (by show g < wr.heap.size; omega)).trans c1, (World.cell?_alloc_lt _ _ _ (by show g < wr.heap.size; omega)).trans c2, (World.cell?_alloc_lt _ _ _ (by show g < wr.heap.size; omega)).trans c3, (World.cell?_alloc_lt _ _ _ (by show b < wr.heap.size; omega)).trans c4⟩
          clear hK K
          (try simp only [Act.put, List.setIfInBounds_toArray, List.set_cons_zero, List.set_cons_succ])
          refine wpAnyH_ready (rs := [5]) (by kernel_rfl) (by simp) ?_
          refine (AllReadyH.cons (o := { dst := some 40, op := Go.Op.call { callee := Go.Callee.value (Go.Operand.func 27), args := #[Go.Operand.tmp 35, Go.Operand.tmp 39], argTypes := #[37, 33] }, type := 46, pos := "law.go:89", after := #[{ on := 0, ground := Go.Ground.data }, { on := 4, ground := Go.Ground.data }], guard := none }) rfl (fun K hK => ?_) AllReadyH.nil)
          go_simp
          refine ((HT).out _).mono ?_
          rintro e w1 ⟨rfl, hb⟩
          have hbd : Below (wr.alloc (.cells #[.float .f64 0, .float .f64 0, .float .f64 0, .int .u32 0] 37)).heap.size (wr.alloc (.cells #[.float .f64 0, .float .f64 0, .float .f64 0, .int .u32 0] 37)) w1 := ((Below.refl (wr.alloc (.cells #[.float .f64 0, .float .f64 0, .float .f64 0, .int .u32 0] 37)).heap.size (wr.alloc (.cells #[.float .f64 0, .float .f64 0, .float .f64 0, .int .u32 0] 37))).drew).trans hb
          have HGn : Hid (GAt w1 wr.heap.size 0 0 0 0) := GAt.call GAt.new hbd
          obtain ⟨_, n0, n1, n2, n3, nf⟩ := HGn.out
          refine hK.out _ _ ?_ (fun hHeld => ?_)
          · (try dsimp only)
            obtain ⟨c0, c1, c2, c3, c4⟩ := hHeld
            exact ⟨(hb.cell (p := ⟨g, _, none⟩) (by show g < (wr.alloc _).heap.size; simp; omega)).trans c0, (hb.cell (p := ⟨g, _, none⟩) (by show g < (wr.alloc _).heap.size; simp; omega)).trans c1, (hb.cell (p := ⟨g, _, none⟩) (by show g < (wr.alloc _).heap.size; simp; omega)).trans c2, (hb.cell (p := ⟨g, _, none⟩) (by show g < (wr.alloc _).heap.size; simp; omega)).trans c3, (hb.cell (p := ⟨b, _, none⟩) (by show b < (wr.alloc _).heap.size; simp; omega)).trans c4⟩
          clear hK K
          (try simp only [Act.put, List.setIfInBounds_toArray, List.set_cons_zero, List.set_cons_succ])
          refine wpAnyH_take (i := 6) (oi := { dst := some 34, op := Go.Op.move (Go.Operand.tmp 40), type := 46, pos := "law.go:89", after := #[{ on := 5, ground := Go.Ground.data }], guard := none }) (v := ?_) rfl (by kernel_rfl) (by kernel_rfl) (by kernel_rfl) (fun _ _ _ h => h) (Or.inl ⟨by rfl, ?_⟩) (by assumption) ?_
          rotate_left
          · intro w hSw
            (try dsimp only at hSw)
            go_simp
            try with_reducible rfl
          (try simp only [Act.put, List.setIfInBounds_toArray, List.set_cons_zero, List.set_cons_succ])
          refine wpAnyH_take (i := 7) (oi := { dst := some 41, op := Go.Op.extract (Go.Operand.tmp 34) 0, type := 37, pos := "law.go:89", after := #[{ on := 6, ground := Go.Ground.data }], guard := none }) (v := ?_) rfl (by kernel_rfl) (by kernel_rfl) (by kernel_rfl) (fun _ _ _ h => h) (Or.inl ⟨by rfl, ?_⟩) (by assumption) ?_
          rotate_left
          · intro w hSw
            (try dsimp only at hSw)
            go_simp
            try with_reducible rfl
          (try simp only [Act.put, List.setIfInBounds_toArray, List.set_cons_zero, List.set_cons_succ])
          refine wpAnyH_take (i := 8) (oi := { dst := some 42, op := Go.Op.extract (Go.Operand.tmp 34) 1, type := 4, pos := "law.go:89", after := #[{ on := 6, ground := Go.Ground.data }, { on := 10, ground := Go.Ground.gcOnly Go.Departure.lateStores }], guard := none }) (v := ?_) rfl (by kernel_rfl) (by kernel_rfl) (by kernel_rfl) (fun _ _ _ h => h) (Or.inl ⟨by rfl, ?_⟩) (by assumption) ?_
          rotate_left
          · intro w hSw
            (try dsimp only at hSw)
            go_simp
            try with_reducible rfl
          (try simp only [Act.put, List.setIfInBounds_toArray, List.set_cons_zero, List.set_cons_succ])
          refine wpAnyH_ready (rs := [10]) (by kernel_rfl) (by simp) ?_
          refine (AllReadyH.cons (o := { dst := none, op := Go.Op.store 37 (Go.Operand.tmp 11) (Go.Operand.tmp 41), type := 0, pos := "law.go:89", after := #[{ on := 9, ground := Go.Ground.data }, { on := 7, ground := Go.Ground.data }, { on := 5, ground := Go.Ground.chain }, { on := 0, ground := Go.Ground.phase }, { on := 1, ground := Go.Ground.phase }, { on := 2, ground := Go.Ground.phase }, { on := 3, ground := Go.Ground.phase }, { on := 4, ground := Go.Ground.phase }, { on := 5, ground := Go.Ground.phase }, { on := 6, ground := Go.Ground.phase }, { on := 7, ground := Go.Ground.phase }, { on := 8, ground := Go.Ground.textOnly Go.Departure.lateStores }, { on := 9, ground := Go.Ground.phase }], guard := none }) rfl (fun K hK => ?_) AllReadyH.nil)
          go_simp

          refine hK.out _ _ ?_ (fun hHeld => ?_)
          · (try dsimp only)
            obtain ⟨c0, c1, c2, c3, c4⟩ := hHeld
            exact ⟨((setG_below (Below.refl wr.heap.size w1) (Nat.le_refl _) lv mo x T).cell (p := ⟨g, _, none⟩) (by show g < wr.heap.size; omega)).trans c0, ((setG_below (Below.refl wr.heap.size w1) (Nat.le_refl _) lv mo x T).cell (p := ⟨g, _, none⟩) (by show g < wr.heap.size; omega)).trans c1, ((setG_below (Below.refl wr.heap.size w1) (Nat.le_refl _) lv mo x T).cell (p := ⟨g, _, none⟩) (by show g < wr.heap.size; omega)).trans c2, ((setG_below (Below.refl wr.heap.size w1) (Nat.le_refl _) lv mo x T).cell (p := ⟨g, _, none⟩) (by show g < wr.heap.size; omega)).trans c3, ((setG_below (Below.refl wr.heap.size w1) (Nat.le_refl _) lv mo x T).cell (p := ⟨b, _, none⟩) (by show b < wr.heap.size; omega)).trans c4⟩
          clear hK K
          (try simp only [Act.put, List.setIfInBounds_toArray, List.set_cons_zero, List.set_cons_succ])
          refine wpAnyH_take (i := 11) (oi := { dst := some 12, op := Go.Op.assign (Go.Operand.tmp 42), type := 4, pos := "law.go:89", after := #[{ on := 8, ground := Go.Ground.data }, { on := 10, ground := Go.Ground.chain }, { on := 0, ground := Go.Ground.phase }, { on := 1, ground := Go.Ground.phase }, { on := 2, ground := Go.Ground.phase }, { on := 3, ground := Go.Ground.phase }, { on := 4, ground := Go.Ground.phase }, { on := 5, ground := Go.Ground.phase }, { on := 6, ground := Go.Ground.phase }, { on := 7, ground := Go.Ground.phase }, { on := 8, ground := Go.Ground.phase }, { on := 9, ground := Go.Ground.phase }, { on := 10, ground := Go.Ground.phase }], guard := none }) (v := ?_) rfl (by kernel_rfl) (by kernel_rfl) (by kernel_rfl) (fun _ _ _ h => h) (Or.inl ⟨by rfl, ?_⟩) (by assumption) ?_
          rotate_left
          · intro w hSw
            (try dsimp only at hSw)
            go_simp
            try with_reducible rfl
          (try simp only [Act.put, List.setIfInBounds_toArray, List.set_cons_zero, List.set_cons_succ])
          refine wpAnyH_done (by kernel_rfl) ?_ _
          obtain ⟨w2, hw2⟩ : ∃ w2, w2 = setG w1 wr.heap.size lv mo x T := ⟨_, rfl⟩
          have hzz := hbd.size
          simp only [World.size_alloc] at hzz
          have HG1 : Hid (GAt w2 g lv mo x t) := by rw [hw2]; exact ((HG.out.alloc _).call hbd).below (setG_below (Below.refl wr.heap.size w1) (Nat.le_refl _) _ _ _ _) hgl
          have HB1 : Hid (Below W.heap.size W w2) := by rw [hw2]; exact setG_below ((HB.out.alloc HB.out.size _).trans (hbd.mono (by have := HB.out.size; simp; omega))) HB.out.size _ _ _ _
          obtain ⟨h, hh⟩ : ∃ h, h = wr.heap.size := ⟨_, rfl⟩
          have HH1 : Hid (GAt w2 h lv mo x T) := by rw [hw2, hh]; exact HGn.out.set _ _ _ _
          have hne : g ≠ h := by rw [hh]; omega
          have HBR : Hid (Below wr.heap.size wr w2) := by rw [hw2]; exact setG_below (((Below.refl wr.heap.size wr).alloc (Nat.le_refl _) _).trans (hbd.mono (by simp))) (Nat.le_refl _) _ _ _ _
          unfold setG at hw2
          try rw [← hh]
          rw [← hh] at hw2
          rw [← hw2]
          clear hw2 hh hbd hb hHeld HGn n0 n1 n2 n3 nf
          obtain ⟨hh2, _, _, j2, j3, _⟩ := HH1.out
          have hz2 := HBR.out.size
          have s2 : w2.cell? ⟨W.heap.size, 2, none⟩ = some (.float .f64 x) := (HBR.out.cell (p := ⟨W.heap.size, 2, none⟩) (by show W.heap.size < wr.heap.size; omega)).trans HS.out
          have j4 : w2.cell? ⟨b, off + k, none⟩ = some (.int .u32 (T : Int)) := (HBR.out.cell (p := ⟨b, off + k, none⟩) (by show b < wr.heap.size; omega)).trans c4
          have hTT : ((T : Int) != (T : Int)) = false := by simp
          clear HG HB c0 c1 c2 c3 c4 HS
          go_wp2_with fail
          refine wp_region_held_drew (S := fun w' => w'.cell? ⟨h, 2, none⟩ = some (.float .f64 x) ∧ w'.cell? ⟨h, 3, none⟩ = some (.int .u32 (T : Int)) ∧ w'.cell? ⟨W.heap.size, 2, none⟩ = some (.float .f64 x) ∧ w'.cell? ⟨b, off + k, none⟩ = some (.int .u32 (T : Int))) (by kernel_rfl) ?_ (fun hHeld => ?_)
          · exact ⟨j2, j3, s2, j4⟩
          refine wpAnyH_take (i := 0) (oi := { dst := some 43, op := Go.Op.move (Go.Operand.tmp 12), type := 4, pos := "law.go:90", after := #[], guard := none }) (v := ?_) rfl (by kernel_rfl) (by kernel_rfl) (by kernel_rfl) (fun _ _ _ h => h) (Or.inl ⟨by rfl, ?_⟩) (by assumption) ?_
          rotate_left
          · intro w hSw
            (try dsimp only at hSw)
            go_simp
            try with_reducible rfl
          (try simp only [Act.put, List.setIfInBounds_toArray, List.set_cons_zero, List.set_cons_succ])
          refine wpAnyH_take (i := 1) (oi := { dst := some 44, op := Go.Op.unOp Go.UnOp.not 4 (Go.Operand.tmp 43), type := 4, pos := "law.go:90", after := #[{ on := 0, ground := Go.Ground.data }], guard := none }) (v := ?_) rfl (by kernel_rfl) (by kernel_rfl) (by kernel_rfl) (fun _ _ _ h => h) (Or.inl ⟨by rfl, ?_⟩) (by assumption) ?_
          rotate_left
          · intro w hSw
            (try dsimp only at hSw)
            go_simp
            try with_reducible rfl
          (try simp only [Act.put, List.setIfInBounds_toArray, List.set_cons_zero, List.set_cons_succ])
          refine wpAnyH_take (i := 2) (oi := { dst := some 45, op := Go.Op.move (Go.Operand.tmp 44), type := 4, pos := "law.go:90", after := #[{ on := 1, ground := Go.Ground.data }], guard := none }) (v := ?_) rfl (by kernel_rfl) (by kernel_rfl) (by kernel_rfl) (fun _ _ _ h => h) (Or.inl ⟨by rfl, ?_⟩) (by assumption) ?_
          rotate_left
          · intro w hSw
            (try dsimp only at hSw)
            go_simp
            try with_reducible rfl
          (try simp only [Act.put, List.setIfInBounds_toArray, List.set_cons_zero, List.set_cons_succ])
          refine wpAnyH_take (i := 3) (oi := { dst := some 46, op := Go.Op.fieldAddr 37 (Go.Operand.tmp 11) 2, type := 0, pos := "law.go:90", after := #[{ on := 2, ground := Go.Ground.guard }], guard := some (2, false) }) (v := ?_) rfl (by kernel_rfl) (by kernel_rfl) (by kernel_rfl) (fun _ _ _ h => h) (Or.inl ⟨by rfl, ?_⟩) (by assumption) ?_
          rotate_left
          · intro w hSw
            (try dsimp only at hSw)
            go_simp
            try with_reducible rfl
          (try simp only [Act.put, List.setIfInBounds_toArray, List.set_cons_zero, List.set_cons_succ])
          refine wpAnyH_take (i := 4) (oi := { dst := some 47, op := Go.Op.load 22 (Go.Operand.tmp 46), type := 22, pos := "law.go:90", after := #[{ on := 3, ground := Go.Ground.data }, { on := 2, ground := Go.Ground.guard }], guard := some (2, false) }) (v := ?_) rfl (by kernel_rfl) (by kernel_rfl) (by kernel_rfl) (fun _ _ _ h => h) (Or.inl ⟨by rfl, ?_⟩) (by assumption) ?_
          rotate_left
          · intro w hSw
            (try dsimp only at hSw)
            go_simp
            try with_reducible rfl
          (try simp only [Act.put, List.setIfInBounds_toArray, List.set_cons_zero, List.set_cons_succ])
          refine wpAnyH_take (i := 5) (oi := { dst := some 48, op := Go.Op.fieldAddr 35 (Go.Operand.tmp 3) 2, type := 0, pos := "law.go:90", after := #[{ on := 2, ground := Go.Ground.guard }], guard := some (2, false) }) (v := ?_) rfl (by kernel_rfl) (by kernel_rfl) (by kernel_rfl) (fun _ _ _ h => h) (Or.inl ⟨by rfl, ?_⟩) (by assumption) ?_
          rotate_left
          · intro w hSw
            (try dsimp only at hSw)
            go_simp
            try with_reducible rfl
          (try simp only [Act.put, List.setIfInBounds_toArray, List.set_cons_zero, List.set_cons_succ])
          refine wpAnyH_take (i := 6) (oi := { dst := some 49, op := Go.Op.load 22 (Go.Operand.tmp 48), type := 22, pos := "law.go:90", after := #[{ on := 5, ground := Go.Ground.data }, { on := 2, ground := Go.Ground.guard }], guard := some (2, false) }) (v := ?_) rfl (by kernel_rfl) (by kernel_rfl) (by kernel_rfl) (fun _ _ _ h => h) (Or.inl ⟨by rfl, ?_⟩) (by assumption) ?_
          rotate_left
          · intro w hSw
            (try dsimp only at hSw)
            go_simp
            try with_reducible rfl
          (try simp only [Act.put, List.setIfInBounds_toArray, List.set_cons_zero, List.set_cons_succ])
          refine wpAnyH_ready (rs := [7]) (by kernel_rfl) (by simp) ?_
          refine AllReadyH.cons (o := { dst := some 50, op := Go.Op.call { callee := Go.Callee.value (Go.Operand.func 14), args := #[Go.Operand.tmp 47, Go.Operand.tmp 49], argTypes := #[22, 22] }, type := 4, pos := "law.go:90", after := #[{ on := 4, ground := Go.Ground.data }, { on := 6, ground := Go.Ground.data }, { on := 2, ground := Go.Ground.chain }, { on := 2, ground := Go.Ground.guard }], guard := some (2, false) }) rfl (fun K hK => ?_) AllReadyH.nil
          go_simp
          refine (HSM.out _).mono ?_
          rintro e w4 ⟨rfl, hb4⟩
          have hbd4 : Below w2.heap.size w2 w4 := ((Below.refl w2.heap.size w2).drew).trans hb4
          have HG4 := Lib.hid (HG1.out.call hbd4)
          have HH4 := Lib.hid (HH1.out.call hbd4)
          have HB4 := Lib.hid (HB1.out.trans (hbd4.mono HB1.out.size))
          have HS4 : Hid (w4.cell? ⟨W.heap.size, 2, none⟩ = some (.float .f64 x)) := (hbd4.cell (p := ⟨W.heap.size, 2, none⟩) (by show W.heap.size < w2.heap.size; omega)).trans s2
          have hz4 := hbd4.size
          refine hK.out _ _ ?_ (fun hHeld => ?_)
          · (try dsimp only)
            obtain ⟨q0, q1, q2, q3⟩ := hHeld
            exact ⟨(hb4.cell (p := ⟨h, _, none⟩) (by show h < w2.heap.size; omega)).trans q0, (hb4.cell (p := ⟨h, _, none⟩) (by show h < w2.heap.size; omega)).trans q1, (hb4.cell (p := ⟨W.heap.size, _, none⟩) (by show W.heap.size < w2.heap.size; omega)).trans q2, (hb4.cell (p := ⟨b, _, none⟩) (by show b < w2.heap.size; omega)).trans q3⟩
          clear hK K
          (try simp only [Act.put, List.setIfInBounds_toArray, List.set_cons_zero, List.set_cons_succ])
          refine wpAnyH_take (i := 8) (oi := { dst := some 51, op := Go.Op.unOp Go.UnOp.not 4 (Go.Operand.tmp 50), type := 4, pos := "law.go:90", after := #[{ on := 7, ground := Go.Ground.data }, { on := 2, ground := Go.Ground.guard }], guard := some (2, false) }) (v := ?_) rfl (by kernel_rfl) (by kernel_rfl) (by kernel_rfl) (fun _ _ _ h => h) (Or.inl ⟨by rfl, ?_⟩) (by assumption) ?_
          rotate_left
          · intro w hSw
            (try dsimp only at hSw)
            go_simp
            try with_reducible rfl
          (try simp only [Act.put, List.setIfInBounds_toArray, List.set_cons_zero, List.set_cons_succ])
          refine wpAnyH_take (i := 9) (oi := { dst := some 52, op := Go.Op.pick (Go.Operand.tmp 45) (Go.Operand.const (Go.Value.bool true)) (Go.Operand.tmp 51), type := 4, pos := "law.go:90", after := #[{ on := 2, ground := Go.Ground.data }, { on := 8, ground := Go.Ground.data }], guard := none }) (v := ?_) rfl (by kernel_rfl) (by kernel_rfl) (by kernel_rfl) (fun _ _ _ h => h) (Or.inl ⟨by rfl, ?_⟩) (by assumption) ?_
          rotate_left
          · intro w hSw
            (try dsimp only at hSw)
            go_simp
            try with_reducible rfl
          (try simp only [Act.put, List.setIfInBounds_toArray, List.set_cons_zero, List.set_cons_succ])
          refine wpAnyH_take (i := 10) (oi := { dst := some 53, op := Go.Op.move (Go.Operand.tmp 52), type := 4, pos := "law.go:90", after := #[{ on := 9, ground := Go.Ground.data }, { on := 7, ground := Go.Ground.chain }], guard := none }) (v := ?_) rfl (by kernel_rfl) (by kernel_rfl) (by kernel_rfl) (fun _ _ _ h => h) (Or.inl ⟨by rfl, ?_⟩) (by assumption) ?_
          rotate_left
          · intro w hSw
            (try dsimp only at hSw)
            go_simp
            try with_reducible rfl
          (try simp only [Act.put, List.setIfInBounds_toArray, List.set_cons_zero, List.set_cons_succ])
          refine wpAnyH_take (i := 11) (oi := { dst := some 54, op := Go.Op.fieldAddr 37 (Go.Operand.tmp 11) 3, type := 0, pos := "law.go:90", after := #[{ on := 10, ground := Go.Ground.guard }], guard := some (10, false) }) (v := ?_) rfl (by kernel_rfl) (by kernel_rfl) (by kernel_rfl) (fun _ _ _ h => h) (Or.inl ⟨by rfl, ?_⟩) (by assumption) ?_
          rotate_left
          · intro w hSw
            (try dsimp only at hSw)
            go_simp
            try with_reducible rfl
          (try simp only [Act.put, List.setIfInBounds_toArray, List.set_cons_zero, List.set_cons_succ])
          refine wpAnyH_take (i := 12) (oi := { dst := some 55, op := Go.Op.load 33 (Go.Operand.tmp 54), type := 33, pos := "law.go:90", after := #[{ on := 11, ground := Go.Ground.data }, { on := 10, ground := Go.Ground.guard }], guard := some (10, false) }) (v := ?_) rfl (by kernel_rfl) (by kernel_rfl) (by kernel_rfl) (fun _ _ _ h => h) (Or.inl ⟨by rfl, ?_⟩) (by assumption) ?_
          rotate_left
          · intro w hSw
            (try dsimp only at hSw)
            go_simp
            try with_reducible rfl
          (try simp only [Act.put, List.setIfInBounds_toArray, List.set_cons_zero, List.set_cons_succ])
          refine wpAnyH_take (i := 13) (oi := { dst := some 56, op := Go.Op.move (Go.Operand.tmp 1), type := 36, pos := "law.go:90", after := #[{ on := 10, ground := Go.Ground.guard }], guard := some (10, false) }) (v := ?_) rfl (by kernel_rfl) (by kernel_rfl) (by kernel_rfl) (fun _ _ _ h => h) (Or.inl ⟨by rfl, ?_⟩) (by assumption) ?_
          rotate_left
          · intro w hSw
            (try dsimp only at hSw)
            go_simp
            try with_reducible rfl
          (try simp only [Act.put, List.setIfInBounds_toArray, List.set_cons_zero, List.set_cons_succ])
          refine wpAnyH_take (i := 14) (oi := { dst := some 57, op := Go.Op.move (Go.Operand.tmp 10), type := 3, pos := "law.go:90", after := #[{ on := 10, ground := Go.Ground.guard }], guard := some (10, false) }) (v := ?_) rfl (by kernel_rfl) (by kernel_rfl) (by kernel_rfl) (fun _ _ _ h => h) (Or.inl ⟨by rfl, ?_⟩) (by assumption) ?_
          rotate_left
          · intro w hSw
            (try dsimp only at hSw)
            go_simp
            try with_reducible rfl
          (try simp only [Act.put, List.setIfInBounds_toArray, List.set_cons_zero, List.set_cons_succ])
          refine wpAnyH_take (i := 15) (oi := { dst := some 58, op := Go.Op.indexAddr 36 (Go.Operand.tmp 56) (Go.Operand.tmp 57), type := 0, pos := "law.go:90", after := #[{ on := 13, ground := Go.Ground.data }, { on := 14, ground := Go.Ground.data }, { on := 10, ground := Go.Ground.guard }], guard := some (10, false) }) (v := ?_) rfl (by kernel_rfl) (by kernel_rfl) (by kernel_rfl) (fun _ _ _ h => h) (Or.inl ⟨by rfl, ?_⟩) (by assumption) ?_
          rotate_left
          · intro w hSw
            (try dsimp only at hSw)
            go_simp
            try with_reducible rfl
          (try simp only [Act.put, List.setIfInBounds_toArray, List.set_cons_zero, List.set_cons_succ])
          refine wpAnyH_take (i := 16) (oi := { dst := some 59, op := Go.Op.load 33 (Go.Operand.tmp 58), type := 33, pos := "law.go:90", after := #[{ on := 15, ground := Go.Ground.data }, { on := 10, ground := Go.Ground.guard }], guard := some (10, false) }) (v := ?_) rfl (by kernel_rfl) (by kernel_rfl) (by kernel_rfl) (fun _ _ _ h => h) (Or.inl ⟨by rfl, ?_⟩) (by assumption) ?_
          rotate_left
          · intro w hSw
            (try dsimp only at hSw)
            go_simp
            try with_reducible rfl
          (try simp only [Act.put, List.setIfInBounds_toArray, List.set_cons_zero, List.set_cons_succ])
          refine wpAnyH_take (i := 17) (oi := { dst := some 60, op := Go.Op.binOp Go.BinOp.neq 33 (Go.Operand.tmp 55) (Go.Operand.tmp 59) 33, type := 4, pos := "law.go:90", after := #[{ on := 12, ground := Go.Ground.data }, { on := 16, ground := Go.Ground.data }, { on := 10, ground := Go.Ground.guard }], guard := some (10, false) }) (v := ?_) rfl (by kernel_rfl) (by kernel_rfl) (by kernel_rfl) (fun _ _ _ h => h) (Or.inl ⟨by rfl, ?_⟩) (by assumption) ?_
          rotate_left
          · intro w hSw
            (try dsimp only at hSw)
            go_simp
            try with_reducible rfl
          (try simp only [Act.put, List.setIfInBounds_toArray, List.set_cons_zero, List.set_cons_succ])
          refine wpAnyH_take (i := 18) (oi := { dst := some 61, op := Go.Op.pick (Go.Operand.tmp 53) (Go.Operand.const (Go.Value.bool true)) (Go.Operand.tmp 60), type := 4, pos := "law.go:90", after := #[{ on := 10, ground := Go.Ground.data }, { on := 17, ground := Go.Ground.data }], guard := none }) (v := ?_) rfl (by kernel_rfl) (by kernel_rfl) (by kernel_rfl) (fun _ _ _ h => h) (Or.inl ⟨by rfl, ?_⟩) (by assumption) ?_
          rotate_left
          · intro w hSw
            (try dsimp only at hSw)
            go_simp
            try with_reducible rfl
          (try simp only [Act.put, List.setIfInBounds_toArray, List.set_cons_zero, List.set_cons_succ])
          refine wpAnyH_done (by kernel_rfl) ?_ _
          clear hHeld hb4 hbd4 j2 j3 j4 s2 HG1 HH1 HB1 hTT
          obtain ⟨hg4, k0, k1, k2, k3, kf⟩ := HG4.out
          obtain ⟨hh4, j0, j1, j2, j3, jf⟩ := HH4.out
          go_wp2
          go_roundw
          case rel =>
            exact ⟨k + 1, T, by omega, by go_num, HTL.out, HG4.out.set _ _ _ _, ((setG_below (Below.refl g w4) (Nat.le_refl _) _ _ _ _).cell (p := ⟨W.heap.size, 2, none⟩) (by show W.heap.size < g; omega)).trans HS4.out, setG_below HB4.out HGL.out _ _ _ _⟩
          case measure => simp [intOf]; omega
      · have hfin := HNN.out k hk hlt
        have HOPC := Lib.hid fun W => gauge_Open lv mo x t HLV.out W
        rw [HOP.out] at HOPC
        have HT5 := Lib.hid fun (w : World) => told05 w
        rcases hfin with hfin | hfin
        · have hf : ¬ (k : Int) < (n : Int) := by omega
          go_wp2_with fail
          refine (HT5.out _).mono ?_
          rintro e w4 ⟨rfl, hb⟩
          have HG4 := Lib.hid (HG.out.call hb)
          have HB4 := Lib.hid (HB.out.trans (hb.mono HB.out.size))
          clear hb HG HB HS
          obtain ⟨hg4, k0, k1, k2, k3, kf⟩ := HG4.out
          go_wp2_with fail
          refine (HOPC.out _).mono ?_
          rintro e w5 ⟨rfl, hb⟩
          have HB5 := Lib.hid (HB4.out.trans (hb.mono HB4.out.size))
          clear hb
          go_wp2
          go_ret
          exact ⟨rfl, HB5.out⟩
        · have hf : ¬ (k : Int) < 100 := by omega
          by_cases hkn : (k : Int) < (n : Int)
          · go_wp2_with fail
            refine (HT5.out _).mono ?_
            rintro e w4 ⟨rfl, hb⟩
            have HG4 := Lib.hid (HG.out.call hb)
            have HB4 := Lib.hid (HB.out.trans (hb.mono HB.out.size))
            clear hb HG HB HS
            obtain ⟨hg4, k0, k1, k2, k3, kf⟩ := HG4.out
            go_wp2_with fail
            refine (HOPC.out _).mono ?_
            rintro e w5 ⟨rfl, hb⟩
            have HB5 := Lib.hid (HB4.out.trans (hb.mono HB4.out.size))
            clear hb
            go_wp2
            go_ret
            exact ⟨rfl, HB5.out⟩
          · go_wp2_with fail
            refine (HT5.out _).mono ?_
            rintro e w4 ⟨rfl, hb⟩
            have HG4 := Lib.hid (HG.out.call hb)
            have HB4 := Lib.hid (HB.out.trans (hb.mono HB.out.size))
            clear hb HG HB HS
            obtain ⟨hg4, k0, k1, k2, k3, kf⟩ := HG4.out
            go_wp2_with fail
            refine (HOPC.out _).mono ?_
            rintro e w5 ⟨rfl, hb⟩
            have HB5 := Lib.hid (HB4.out.trans (hb.mono HB4.out.size))
            clear hb
            go_wp2
            go_ret
            exact ⟨rfl, HB5.out⟩
  · have HTO := Lib.hid fun w => law5_To cn mo x k0 w
    have HOPN : Hid (openW cn = true) := nan_open HN1.out
    have HLVN : Hid (cn < 18446744073709551616) := HN2.out
    go_enter Try.func7, Try.ntmps7
    go_wp2_with fail
    refine (HTO.out _).mono ?_
    rintro e w1 ⟨rfl, hb⟩
    have hbx : Below W.heap.size W w1 := Below.trans (by (repeat' (first | (with_reducible exact Below.refl _ _) | (with_reducible assumption) | (with_reducible refine Below.setCell ?_ ?_ _) | (with_reducible refine Below.alloc ?_ ?_ _) | (with_reducible refine below_drewN ?_ _) | (with_reducible refine Below.drew ?_) | go_size))) (hb.mono (by go_size))
    have hz1 : W.heap.size + 1 ≤ w1.heap.size := by have := hb.size; simpa using this
    have s2 : w1.cell? ⟨W.heap.size, 2, none⟩ = some (.float .f64 x) := by rw [(bcell hb).1 _ _ (by simp)]; simp [go_sem]
    obtain ⟨g, hg⟩ : ∃ g, g = w1.heap.size := ⟨_, rfl⟩
    have HGL : Hid (W.heap.size ≤ g) := by show W.heap.size ≤ g; rw [hg]; omega
    have hgw : W.heap.size < g := by rw [hg]; omega
    obtain ⟨w2, hw2⟩ : ∃ w2, w2 = w1.alloc (.cells #[.float .f64 cn, .float .f64 mo, .float .f64 x, .int .u32 (k0 : Int)] 37) := ⟨_, rfl⟩
    have HG0 : Hid (GAt w2 g cn mo x k0) := by rw [hw2, hg]; exact GAt.new
    have HB0 : Hid (Below W.heap.size W w2) := by rw [hw2]; exact hbx.alloc hbx.size _
    have HS0 : Hid (w2.cell? ⟨W.heap.size, 2, none⟩ = some (.float .f64 x)) := by rw [hw2]; exact (World.cell?_alloc_lt _ _ _ (by show W.heap.size < _; omega)).trans s2
    clear hb hbx hz1 s2 HTO hmul hsub
    go_wp2
    rw [← hw2]
    (try rw [← hg])
    clear hw2 hg
    obtain ⟨lv, hlv⟩ : ∃ lv, lv = cn := ⟨_, rfl⟩
    rw [← hlv] at HG0
    have HOP := Lib.hid (HOPN.out)
    have HLV := Lib.hid (HLVN.out)
    rw [← hlv] at HOP HLV
    clear hlv HOPN HLVN
    go_loopw [10] (fun i wr => ∃ k t : Nat, k ≤ K ∧ i = .int .i64 k ∧ t < 4294967296 ∧ Hid (GAt wr g lv mo x t) ∧ Hid (wr.cell? ⟨W.heap.size, 2, none⟩ = some (.float .f64 x)) ∧ Hid (Below W.heap.size W wr)) (fun i _ => K - (intOf i).toNat)
    case atStart => exact ⟨0, k0, by omega, rfl, HK0.out, HG0, HS0, HB0⟩
    case round =>
      obtain ⟨k, t, hk, rfl, ht, HG, HS, HB⟩ := hrel
      by_cases hlt : k < K
      · obtain ⟨b, off, rfl, hb0, hcell⟩ := HTK.out (by omega)
        obtain ⟨hgl, c0, c1, c2, c3, _⟩ := HG.out
        have hWw := HB.out.size
        obtain ⟨T, hT⟩ : ∃ T, T = l1.getD k 0 := ⟨_, rfl⟩
        have HTL : Hid (T < 4294967296) := by rw [hT]; exact HL2.out k
        have c4 : wr.cell? ⟨b, off + k, none⟩ = some (.int .u32 (T : Int)) := by rw [hT]; exact (HB.out.cell (p := ⟨b, off + k, none⟩) (by show b < _; omega)).trans (hcell k (by omega))
        clear hT hcell
        have g0 : (0 : Int) ≤ (k : Int) := Int.natCast_nonneg _
        have g1 : (k : Int) < (n : Int) := by omega
        have g2 : (k : Int) < 100 := by omega
        have HT := Lib.hid fun W => gauge_Take_open lv mo x t T HLV.out ht HTL.out HOP.out W
        unfold gV at HT
        go_wp2_with fail
        refine wp_region_held_drew (S := fun w' => w'.cell? ⟨g, 0, none⟩ = some (.float .f64 lv) ∧ w'.cell? ⟨g, 1, none⟩ = some (.float .f64 mo) ∧ w'.cell? ⟨g, 2, none⟩ = some (.float .f64 x) ∧ w'.cell? ⟨g, 3, none⟩ = some (.int .u32 (t : Int)) ∧ w'.cell? ⟨b, off + k, none⟩ = some (.int .u32 (T : Int))) (by kernel_rfl) ?_ (fun hHeld => ?_)
        · exact ⟨c0, c1, c2, c3, c4⟩
        refine wpAnyH_take (i := 0) (oi := { dst := some 35, op := Go.Op.load 37 (Go.Operand.tmp 9), type := 37, pos := "law.go:89", after := #[], guard := none }) (v := ?_) rfl (by kernel_rfl) (by kernel_rfl) (by kernel_rfl) (fun _ _ _ h => h) (Or.inl ⟨by rfl, ?_⟩) (by assumption) ?_
        rotate_left
        · intro w hSw
          (try dsimp only at hSw)
          go_simp
          try with_reducible rfl
        (try simp only [Act.put, List.setIfInBounds_toArray, List.set_cons_zero, List.set_cons_succ])
        refine wpAnyH_take (i := 1) (oi := { dst := some 36, op := Go.Op.move (Go.Operand.tmp 1), type := 36, pos := "law.go:89", after := #[], guard := none }) (v := ?_) rfl (by kernel_rfl) (by kernel_rfl) (by kernel_rfl) (fun _ _ _ h => h) (Or.inl ⟨by rfl, ?_⟩) (by assumption) ?_
        rotate_left
        · intro w hSw
          (try dsimp only at hSw)
          go_simp
          try with_reducible rfl
        (try simp only [Act.put, List.setIfInBounds_toArray, List.set_cons_zero, List.set_cons_succ])
        refine wpAnyH_take (i := 2) (oi := { dst := some 37, op := Go.Op.move (Go.Operand.tmp 10), type := 3, pos := "law.go:89", after := #[], guard := none }) (v := ?_) rfl (by kernel_rfl) (by kernel_rfl) (by kernel_rfl) (fun _ _ _ h => h) (Or.inl ⟨by rfl, ?_⟩) (by assumption) ?_
        rotate_left
        · intro w hSw
          (try dsimp only at hSw)
          go_simp
          try with_reducible rfl
        (try simp only [Act.put, List.setIfInBounds_toArray, List.set_cons_zero, List.set_cons_succ])
        refine wpAnyH_take (i := 3) (oi := { dst := some 38, op := Go.Op.indexAddr 36 (Go.Operand.tmp 36) (Go.Operand.tmp 37), type := 0, pos := "law.go:89", after := #[{ on := 1, ground := Go.Ground.data }, { on := 2, ground := Go.Ground.data }], guard := none }) (v := ?_) rfl (by kernel_rfl) (by kernel_rfl) (by kernel_rfl) (fun _ _ _ h => h) (Or.inl ⟨by rfl, ?_⟩) (by assumption) ?_
        rotate_left
        · intro w hSw
          (try dsimp only at hSw)
          go_simp
          try with_reducible rfl
        (try simp only [Act.put, List.setIfInBounds_toArray, List.set_cons_zero, List.set_cons_succ])
        refine wpAnyH_take (i := 4) (oi := { dst := some 39, op := Go.Op.load 33 (Go.Operand.tmp 38), type := 33, pos := "law.go:89", after := #[{ on := 3, ground := Go.Ground.data }], guard := none }) (v := ?_) rfl (by kernel_rfl) (by kernel_rfl) (by kernel_rfl) (fun _ _ _ h => h) (Or.inl ⟨by rfl, ?_⟩) (by assumption) ?_
        rotate_left
        · intro w hSw
          (try dsimp only at hSw)
          go_simp
          try with_reducible rfl
        (try simp only [Act.put, List.setIfInBounds_toArray, List.set_cons_zero, List.set_cons_succ])
        refine wpAnyH_ready (rs := [5, 9]) (by kernel_rfl) (by simp) ?_
        refine (AllReadyH.cons (o := { dst := some 40, op := Go.Op.call { callee := Go.Callee.value (Go.Operand.func 27), args := #[Go.Operand.tmp 35, Go.Operand.tmp 39], argTypes := #[37, 33] }, type := 46, pos := "law.go:89", after := #[{ on := 0, ground := Go.Ground.data }, { on := 4, ground := Go.Ground.data }], guard := none }) rfl (fun K hK => ?_) (AllReadyH.cons (o := { dst := some 11, op := Go.Op.alloc 37, type := 0, pos := "law.go:89", after := #[], guard := none }) rfl (fun K hK => ?_) AllReadyH.nil))
        · go_simp
          refine ((HT).out _).mono ?_
          rintro e w1 ⟨rfl, hb⟩
          have hbd : Below wr.heap.size wr w1 := ((Below.refl wr.heap.size wr).drew).trans hb
          refine hK.out _ _ ?_ (fun hHeld => ?_)
          · (try dsimp only)
            obtain ⟨c0, c1, c2, c3, c4⟩ := hHeld
            exact ⟨(hb.cell (p := ⟨g, _, none⟩) (by show g < wr.heap.size; omega)).trans c0, (hb.cell (p := ⟨g, _, none⟩) (by show g < wr.heap.size; omega)).trans c1, (hb.cell (p := ⟨g, _, none⟩) (by show g < wr.heap.size; omega)).trans c2, (hb.cell (p := ⟨g, _, none⟩) (by show g < wr.heap.size; omega)).trans c3, (hb.cell (p := ⟨b, _, none⟩) (by show b < wr.heap.size; omega)).trans c4⟩
          clear hK K
          (try simp only [Act.put, List.setIfInBounds_toArray, List.set_cons_zero, List.set_cons_succ])
          refine wpAnyH_take (i := 6) (oi := { dst := some 34, op := Go.Op.move (Go.Operand.tmp 40), type := 46, pos := "law.go:89", after := #[{ on := 5, ground := Go.Ground.data }], guard := none }) (v := ?_) rfl (by kernel_rfl) (by kernel_rfl) (by kernel_rfl) (fun _ _ _ h => h) (Or.inl ⟨by rfl, ?_⟩) (by assumption) ?_
          rotate_left
          · intro w hSw
            (try dsimp only at hSw)
            go_simp
            try with_reducible rfl
          (try simp only [Act.put, List.setIfInBounds_toArray, List.set_cons_zero, List.set_cons_succ])
          refine wpAnyH_take (i := 7) (oi := { dst := some 41, op := Go.Op.extract (Go.Operand.tmp 34) 0, type := 37, pos := "law.go:89", after := #[{ on := 6, ground := Go.Ground.data }], guard := none }) (v := ?_) rfl (by kernel_rfl) (by kernel_rfl) (by kernel_rfl) (fun _ _ _ h => h) (Or.inl ⟨by rfl, ?_⟩) (by assumption) ?_
          rotate_left
          · intro w hSw
            (try dsimp only at hSw)
            go_simp
            try with_reducible rfl
          (try simp only [Act.put, List.setIfInBounds_toArray, List.set_cons_zero, List.set_cons_succ])
          refine wpAnyH_take (i := 8) (oi := { dst := some 42, op := Go.Op.extract (Go.Operand.tmp 34) 1, type := 4, pos := "law.go:89", after := #[{ on := 6, ground := Go.Ground.data }, { on := 10, ground := Go.Ground.gcOnly Go.Departure.lateStores }], guard := none }) (v := ?_) rfl (by kernel_rfl) (by kernel_rfl) (by kernel_rfl) (fun _ _ _ h => h) (Or.inl ⟨by rfl, ?_⟩) (by assumption) ?_
          rotate_left
          · intro w hSw
            (try dsimp only at hSw)
            go_simp
            try with_reducible rfl
          (try simp only [Act.put, List.setIfInBounds_toArray, List.set_cons_zero, List.set_cons_succ])
          refine wpAnyH_ready (rs := [9]) (by kernel_rfl) (by simp) ?_
          refine (AllReadyH.cons (o := { dst := some 11, op := Go.Op.alloc 37, type := 0, pos := "law.go:89", after := #[], guard := none }) rfl (fun K hK => ?_) AllReadyH.nil)
          go_simp

          refine hK.out _ _ ?_ (fun hHeld => ?_)
          · (try dsimp only)
            obtain ⟨c0, c1, c2, c3, c4⟩ := hHeld
            exact ⟨(World.cell?_alloc_lt _ _ _ (by show g < w1.heap.size; have := hbd.size; omega)).trans c0, (World.cell?_alloc_lt _ _ _ (by show g < w1.heap.size; have := hbd.size; omega)).trans c1, (World.cell?_alloc_lt _ _ _ (by show g < w1.heap.size; have := hbd.size; omega)).trans c2, (World.cell?_alloc_lt _ _ _ (by show g < w1.heap.size; have := hbd.size; omega)).trans c3, (World.cell?_alloc_lt _ _ _ (by show b < w1.heap.size; have := hbd.size; omega)).trans c4⟩
          clear hK K
          (try simp only [Act.put, List.setIfInBounds_toArray, List.set_cons_zero, List.set_cons_succ])
          refine wpAnyH_ready (rs := [10]) (by kernel_rfl) (by simp) ?_
          refine (AllReadyH.cons (o := { dst := none, op := Go.Op.store 37 (Go.Operand.tmp 11) (Go.Operand.tmp 41), type := 0, pos := "law.go:89", after := #[{ on := 9, ground := Go.Ground.data }, { on := 7, ground := Go.Ground.data }, { on := 5, ground := Go.Ground.chain }, { on := 0, ground := Go.Ground.phase }, { on := 1, ground := Go.Ground.phase }, { on := 2, ground := Go.Ground.phase }, { on := 3, ground := Go.Ground.phase }, { on := 4, ground := Go.Ground.phase }, { on := 5, ground := Go.Ground.phase }, { on := 6, ground := Go.Ground.phase }, { on := 7, ground := Go.Ground.phase }, { on := 8, ground := Go.Ground.textOnly Go.Departure.lateStores }, { on := 9, ground := Go.Ground.phase }], guard := none }) rfl (fun K hK => ?_) AllReadyH.nil)
          go_simp

          refine hK.out _ _ ?_ (fun hHeld => ?_)
          · (try dsimp only)
            obtain ⟨_, u0, u1, u2, u3, _⟩ := HG.out.call hbd
            have hs1 := hbd.size
            exact ⟨(World.cell?_alloc_lt _ _ _ (by show g < w1.heap.size; omega)).trans u0, (World.cell?_alloc_lt _ _ _ (by show g < w1.heap.size; omega)).trans u1, (World.cell?_alloc_lt _ _ _ (by show g < w1.heap.size; omega)).trans u2, (World.cell?_alloc_lt _ _ _ (by show g < w1.heap.size; omega)).trans u3, (World.cell?_alloc_lt _ _ _ (by show b < w1.heap.size; omega)).trans ((hbd.cell (p := ⟨b, off + k, none⟩) (by show b < wr.heap.size; omega)).trans c4)⟩
          clear hK K
          (try simp only [Act.put, List.setIfInBounds_toArray, List.set_cons_zero, List.set_cons_succ])
          refine wpAnyH_take (i := 11) (oi := { dst := some 12, op := Go.Op.assign (Go.Operand.tmp 42), type := 4, pos := "law.go:89", after := #[{ on := 8, ground := Go.Ground.data }, { on := 10, ground := Go.Ground.chain }, { on := 0, ground := Go.Ground.phase }, { on := 1, ground := Go.Ground.phase }, { on := 2, ground := Go.Ground.phase }, { on := 3, ground := Go.Ground.phase }, { on := 4, ground := Go.Ground.phase }, { on := 5, ground := Go.Ground.phase }, { on := 6, ground := Go.Ground.phase }, { on := 7, ground := Go.Ground.phase }, { on := 8, ground := Go.Ground.phase }, { on := 9, ground := Go.Ground.phase }, { on := 10, ground := Go.Ground.phase }], guard := none }) (v := ?_) rfl (by kernel_rfl) (by kernel_rfl) (by kernel_rfl) (fun _ _ _ h => h) (Or.inl ⟨by rfl, ?_⟩) (by assumption) ?_
          rotate_left
          · intro w hSw
            (try dsimp only at hSw)
            go_simp
            try with_reducible rfl
          (try simp only [Act.put, List.setIfInBounds_toArray, List.set_cons_zero, List.set_cons_succ])
          refine wpAnyH_done (by kernel_rfl) ?_ _
          obtain ⟨w2, hw2⟩ : ∃ w2, w2 = w1.alloc (.cells #[.float .f64 lv, .float .f64 mo, .float .f64 x, .int .u32 (T : Int)] 37) := ⟨_, rfl⟩
          have hzz := hbd.size
          have HG1 : Hid (GAt w2 g lv mo x t) := by rw [hw2]; exact (HG.out.call hbd).alloc _
          have HB1 : Hid (Below W.heap.size W w2) := by rw [hw2]; exact (HB.out.trans (hbd.mono HB.out.size)).alloc (by have := HB.out.size; omega) _
          obtain ⟨h, hh⟩ : ∃ h, h = w1.heap.size := ⟨_, rfl⟩
          have HH1 : Hid (GAt w2 h lv mo x T) := by rw [hw2, hh]; exact GAt.new
          have hne : g ≠ h := by rw [hh]; omega
          have HBR : Hid (Below wr.heap.size wr w2) := by rw [hw2]; exact hbd.alloc hbd.size _
          try rw [← hh]
          rw [← hw2]
          clear hw2 hh hbd hb hHeld
          obtain ⟨hh2, _, _, j2, j3, _⟩ := HH1.out
          have hz2 := HBR.out.size
          have s2 : w2.cell? ⟨W.heap.size, 2, none⟩ = some (.float .f64 x) := (HBR.out.cell (p := ⟨W.heap.size, 2, none⟩) (by show W.heap.size < wr.heap.size; omega)).trans HS.out
          have j4 : w2.cell? ⟨b, off + k, none⟩ = some (.int .u32 (T : Int)) := (HBR.out.cell (p := ⟨b, off + k, none⟩) (by show b < wr.heap.size; omega)).trans c4
          have hTT : ((T : Int) != (T : Int)) = false := by simp
          clear HG HB c0 c1 c2 c3 c4 HS
          go_wp2_with fail
          refine wp_region_held_drew (S := fun w' => w'.cell? ⟨h, 2, none⟩ = some (.float .f64 x) ∧ w'.cell? ⟨h, 3, none⟩ = some (.int .u32 (T : Int)) ∧ w'.cell? ⟨W.heap.size, 2, none⟩ = some (.float .f64 x) ∧ w'.cell? ⟨b, off + k, none⟩ = some (.int .u32 (T : Int))) (by kernel_rfl) ?_ (fun hHeld => ?_)
          · exact ⟨j2, j3, s2, j4⟩
          refine wpAnyH_take (i := 0) (oi := { dst := some 43, op := Go.Op.move (Go.Operand.tmp 12), type := 4, pos := "law.go:90", after := #[], guard := none }) (v := ?_) rfl (by kernel_rfl) (by kernel_rfl) (by kernel_rfl) (fun _ _ _ h => h) (Or.inl ⟨by rfl, ?_⟩) (by assumption) ?_
          rotate_left
          · intro w hSw
            (try dsimp only at hSw)
            go_simp
            try with_reducible rfl
          (try simp only [Act.put, List.setIfInBounds_toArray, List.set_cons_zero, List.set_cons_succ])
          refine wpAnyH_take (i := 1) (oi := { dst := some 44, op := Go.Op.unOp Go.UnOp.not 4 (Go.Operand.tmp 43), type := 4, pos := "law.go:90", after := #[{ on := 0, ground := Go.Ground.data }], guard := none }) (v := ?_) rfl (by kernel_rfl) (by kernel_rfl) (by kernel_rfl) (fun _ _ _ h => h) (Or.inl ⟨by rfl, ?_⟩) (by assumption) ?_
          rotate_left
          · intro w hSw
            (try dsimp only at hSw)
            go_simp
            try with_reducible rfl
          (try simp only [Act.put, List.setIfInBounds_toArray, List.set_cons_zero, List.set_cons_succ])
          refine wpAnyH_take (i := 2) (oi := { dst := some 45, op := Go.Op.move (Go.Operand.tmp 44), type := 4, pos := "law.go:90", after := #[{ on := 1, ground := Go.Ground.data }], guard := none }) (v := ?_) rfl (by kernel_rfl) (by kernel_rfl) (by kernel_rfl) (fun _ _ _ h => h) (Or.inl ⟨by rfl, ?_⟩) (by assumption) ?_
          rotate_left
          · intro w hSw
            (try dsimp only at hSw)
            go_simp
            try with_reducible rfl
          (try simp only [Act.put, List.setIfInBounds_toArray, List.set_cons_zero, List.set_cons_succ])
          refine wpAnyH_take (i := 3) (oi := { dst := some 46, op := Go.Op.fieldAddr 37 (Go.Operand.tmp 11) 2, type := 0, pos := "law.go:90", after := #[{ on := 2, ground := Go.Ground.guard }], guard := some (2, false) }) (v := ?_) rfl (by kernel_rfl) (by kernel_rfl) (by kernel_rfl) (fun _ _ _ h => h) (Or.inl ⟨by rfl, ?_⟩) (by assumption) ?_
          rotate_left
          · intro w hSw
            (try dsimp only at hSw)
            go_simp
            try with_reducible rfl
          (try simp only [Act.put, List.setIfInBounds_toArray, List.set_cons_zero, List.set_cons_succ])
          refine wpAnyH_take (i := 4) (oi := { dst := some 47, op := Go.Op.load 22 (Go.Operand.tmp 46), type := 22, pos := "law.go:90", after := #[{ on := 3, ground := Go.Ground.data }, { on := 2, ground := Go.Ground.guard }], guard := some (2, false) }) (v := ?_) rfl (by kernel_rfl) (by kernel_rfl) (by kernel_rfl) (fun _ _ _ h => h) (Or.inl ⟨by rfl, ?_⟩) (by assumption) ?_
          rotate_left
          · intro w hSw
            (try dsimp only at hSw)
            go_simp
            try with_reducible rfl
          (try simp only [Act.put, List.setIfInBounds_toArray, List.set_cons_zero, List.set_cons_succ])
          refine wpAnyH_take (i := 5) (oi := { dst := some 48, op := Go.Op.fieldAddr 35 (Go.Operand.tmp 3) 2, type := 0, pos := "law.go:90", after := #[{ on := 2, ground := Go.Ground.guard }], guard := some (2, false) }) (v := ?_) rfl (by kernel_rfl) (by kernel_rfl) (by kernel_rfl) (fun _ _ _ h => h) (Or.inl ⟨by rfl, ?_⟩) (by assumption) ?_
          rotate_left
          · intro w hSw
            (try dsimp only at hSw)
            go_simp
            try with_reducible rfl
          (try simp only [Act.put, List.setIfInBounds_toArray, List.set_cons_zero, List.set_cons_succ])
          refine wpAnyH_take (i := 6) (oi := { dst := some 49, op := Go.Op.load 22 (Go.Operand.tmp 48), type := 22, pos := "law.go:90", after := #[{ on := 5, ground := Go.Ground.data }, { on := 2, ground := Go.Ground.guard }], guard := some (2, false) }) (v := ?_) rfl (by kernel_rfl) (by kernel_rfl) (by kernel_rfl) (fun _ _ _ h => h) (Or.inl ⟨by rfl, ?_⟩) (by assumption) ?_
          rotate_left
          · intro w hSw
            (try dsimp only at hSw)
            go_simp
            try with_reducible rfl
          (try simp only [Act.put, List.setIfInBounds_toArray, List.set_cons_zero, List.set_cons_succ])
          refine wpAnyH_ready (rs := [7]) (by kernel_rfl) (by simp) ?_
          refine AllReadyH.cons (o := { dst := some 50, op := Go.Op.call { callee := Go.Callee.value (Go.Operand.func 14), args := #[Go.Operand.tmp 47, Go.Operand.tmp 49], argTypes := #[22, 22] }, type := 4, pos := "law.go:90", after := #[{ on := 4, ground := Go.Ground.data }, { on := 6, ground := Go.Ground.data }, { on := 2, ground := Go.Ground.chain }, { on := 2, ground := Go.Ground.guard }], guard := some (2, false) }) rfl (fun K hK => ?_) AllReadyH.nil
          go_simp
          refine (HSM.out _).mono ?_
          rintro e w4 ⟨rfl, hb4⟩
          have hbd4 : Below w2.heap.size w2 w4 := ((Below.refl w2.heap.size w2).drew).trans hb4
          have HG4 := Lib.hid (HG1.out.call hbd4)
          have HH4 := Lib.hid (HH1.out.call hbd4)
          have HB4 := Lib.hid (HB1.out.trans (hbd4.mono HB1.out.size))
          have HS4 : Hid (w4.cell? ⟨W.heap.size, 2, none⟩ = some (.float .f64 x)) := (hbd4.cell (p := ⟨W.heap.size, 2, none⟩) (by show W.heap.size < w2.heap.size; omega)).trans s2
          have hz4 := hbd4.size
          refine hK.out _ _ ?_ (fun hHeld => ?_)
          · (try dsimp only)
            obtain ⟨q0, q1, q2, q3⟩ := hHeld
            exact ⟨(hb4.cell (p := ⟨h, _, none⟩) (by show h < w2.heap.size; omega)).trans q0, (hb4.cell (p := ⟨h, _, none⟩) (by show h < w2.heap.size; omega)).trans q1, (hb4.cell (p := ⟨W.heap.size, _, none⟩) (by show W.heap.size < w2.heap.size; omega)).trans q2, (hb4.cell (p := ⟨b, _, none⟩) (by show b < w2.heap.size; omega)).trans q3⟩
          clear hK K
          (try simp only [Act.put, List.setIfInBounds_toArray, List.set_cons_zero, List.set_cons_succ])
          refine wpAnyH_take (i := 8) (oi := { dst := some 51, op := Go.Op.unOp Go.UnOp.not 4 (Go.Operand.tmp 50), type := 4, pos := "law.go:90", after := #[{ on := 7, ground := Go.Ground.data }, { on := 2, ground := Go.Ground.guard }], guard := some (2, false) }) (v := ?_) rfl (by kernel_rfl) (by kernel_rfl) (by kernel_rfl) (fun _ _ _ h => h) (Or.inl ⟨by rfl, ?_⟩) (by assumption) ?_
          rotate_left
          · intro w hSw
            (try dsimp only at hSw)
            go_simp
            try with_reducible rfl
          (try simp only [Act.put, List.setIfInBounds_toArray, List.set_cons_zero, List.set_cons_succ])
          refine wpAnyH_take (i := 9) (oi := { dst := some 52, op := Go.Op.pick (Go.Operand.tmp 45) (Go.Operand.const (Go.Value.bool true)) (Go.Operand.tmp 51), type := 4, pos := "law.go:90", after := #[{ on := 2, ground := Go.Ground.data }, { on := 8, ground := Go.Ground.data }], guard := none }) (v := ?_) rfl (by kernel_rfl) (by kernel_rfl) (by kernel_rfl) (fun _ _ _ h => h) (Or.inl ⟨by rfl, ?_⟩) (by assumption) ?_
          rotate_left
          · intro w hSw
            (try dsimp only at hSw)
            go_simp
            try with_reducible rfl
          (try simp only [Act.put, List.setIfInBounds_toArray, List.set_cons_zero, List.set_cons_succ])
          refine wpAnyH_take (i := 10) (oi := { dst := some 53, op := Go.Op.move (Go.Operand.tmp 52), type := 4, pos := "law.go:90", after := #[{ on := 9, ground := Go.Ground.data }, { on := 7, ground := Go.Ground.chain }], guard := none }) (v := ?_) rfl (by kernel_rfl) (by kernel_rfl) (by kernel_rfl) (fun _ _ _ h => h) (Or.inl ⟨by rfl, ?_⟩) (by assumption) ?_
          rotate_left
          · intro w hSw
            (try dsimp only at hSw)
            go_simp
            try with_reducible rfl
          (try simp only [Act.put, List.setIfInBounds_toArray, List.set_cons_zero, List.set_cons_succ])
          refine wpAnyH_take (i := 11) (oi := { dst := some 54, op := Go.Op.fieldAddr 37 (Go.Operand.tmp 11) 3, type := 0, pos := "law.go:90", after := #[{ on := 10, ground := Go.Ground.guard }], guard := some (10, false) }) (v := ?_) rfl (by kernel_rfl) (by kernel_rfl) (by kernel_rfl) (fun _ _ _ h => h) (Or.inl ⟨by rfl, ?_⟩) (by assumption) ?_
          rotate_left
          · intro w hSw
            (try dsimp only at hSw)
            go_simp
            try with_reducible rfl
          (try simp only [Act.put, List.setIfInBounds_toArray, List.set_cons_zero, List.set_cons_succ])
          refine wpAnyH_take (i := 12) (oi := { dst := some 55, op := Go.Op.load 33 (Go.Operand.tmp 54), type := 33, pos := "law.go:90", after := #[{ on := 11, ground := Go.Ground.data }, { on := 10, ground := Go.Ground.guard }], guard := some (10, false) }) (v := ?_) rfl (by kernel_rfl) (by kernel_rfl) (by kernel_rfl) (fun _ _ _ h => h) (Or.inl ⟨by rfl, ?_⟩) (by assumption) ?_
          rotate_left
          · intro w hSw
            (try dsimp only at hSw)
            go_simp
            try with_reducible rfl
          (try simp only [Act.put, List.setIfInBounds_toArray, List.set_cons_zero, List.set_cons_succ])
          refine wpAnyH_take (i := 13) (oi := { dst := some 56, op := Go.Op.move (Go.Operand.tmp 1), type := 36, pos := "law.go:90", after := #[{ on := 10, ground := Go.Ground.guard }], guard := some (10, false) }) (v := ?_) rfl (by kernel_rfl) (by kernel_rfl) (by kernel_rfl) (fun _ _ _ h => h) (Or.inl ⟨by rfl, ?_⟩) (by assumption) ?_
          rotate_left
          · intro w hSw
            (try dsimp only at hSw)
            go_simp
            try with_reducible rfl
          (try simp only [Act.put, List.setIfInBounds_toArray, List.set_cons_zero, List.set_cons_succ])
          refine wpAnyH_take (i := 14) (oi := { dst := some 57, op := Go.Op.move (Go.Operand.tmp 10), type := 3, pos := "law.go:90", after := #[{ on := 10, ground := Go.Ground.guard }], guard := some (10, false) }) (v := ?_) rfl (by kernel_rfl) (by kernel_rfl) (by kernel_rfl) (fun _ _ _ h => h) (Or.inl ⟨by rfl, ?_⟩) (by assumption) ?_
          rotate_left
          · intro w hSw
            (try dsimp only at hSw)
            go_simp
            try with_reducible rfl
          (try simp only [Act.put, List.setIfInBounds_toArray, List.set_cons_zero, List.set_cons_succ])
          refine wpAnyH_take (i := 15) (oi := { dst := some 58, op := Go.Op.indexAddr 36 (Go.Operand.tmp 56) (Go.Operand.tmp 57), type := 0, pos := "law.go:90", after := #[{ on := 13, ground := Go.Ground.data }, { on := 14, ground := Go.Ground.data }, { on := 10, ground := Go.Ground.guard }], guard := some (10, false) }) (v := ?_) rfl (by kernel_rfl) (by kernel_rfl) (by kernel_rfl) (fun _ _ _ h => h) (Or.inl ⟨by rfl, ?_⟩) (by assumption) ?_
          rotate_left
          · intro w hSw
            (try dsimp only at hSw)
            go_simp
            try with_reducible rfl
          (try simp only [Act.put, List.setIfInBounds_toArray, List.set_cons_zero, List.set_cons_succ])
          refine wpAnyH_take (i := 16) (oi := { dst := some 59, op := Go.Op.load 33 (Go.Operand.tmp 58), type := 33, pos := "law.go:90", after := #[{ on := 15, ground := Go.Ground.data }, { on := 10, ground := Go.Ground.guard }], guard := some (10, false) }) (v := ?_) rfl (by kernel_rfl) (by kernel_rfl) (by kernel_rfl) (fun _ _ _ h => h) (Or.inl ⟨by rfl, ?_⟩) (by assumption) ?_
          rotate_left
          · intro w hSw
            (try dsimp only at hSw)
            go_simp
            try with_reducible rfl
          (try simp only [Act.put, List.setIfInBounds_toArray, List.set_cons_zero, List.set_cons_succ])
          refine wpAnyH_take (i := 17) (oi := { dst := some 60, op := Go.Op.binOp Go.BinOp.neq 33 (Go.Operand.tmp 55) (Go.Operand.tmp 59) 33, type := 4, pos := "law.go:90", after := #[{ on := 12, ground := Go.Ground.data }, { on := 16, ground := Go.Ground.data }, { on := 10, ground := Go.Ground.guard }], guard := some (10, false) }) (v := ?_) rfl (by kernel_rfl) (by kernel_rfl) (by kernel_rfl) (fun _ _ _ h => h) (Or.inl ⟨by rfl, ?_⟩) (by assumption) ?_
          rotate_left
          · intro w hSw
            (try dsimp only at hSw)
            go_simp
            try with_reducible rfl
          (try simp only [Act.put, List.setIfInBounds_toArray, List.set_cons_zero, List.set_cons_succ])
          refine wpAnyH_take (i := 18) (oi := { dst := some 61, op := Go.Op.pick (Go.Operand.tmp 53) (Go.Operand.const (Go.Value.bool true)) (Go.Operand.tmp 60), type := 4, pos := "law.go:90", after := #[{ on := 10, ground := Go.Ground.data }, { on := 17, ground := Go.Ground.data }], guard := none }) (v := ?_) rfl (by kernel_rfl) (by kernel_rfl) (by kernel_rfl) (fun _ _ _ h => h) (Or.inl ⟨by rfl, ?_⟩) (by assumption) ?_
          rotate_left
          · intro w hSw
            (try dsimp only at hSw)
            go_simp
            try with_reducible rfl
          (try simp only [Act.put, List.setIfInBounds_toArray, List.set_cons_zero, List.set_cons_succ])
          refine wpAnyH_done (by kernel_rfl) ?_ _
          clear hHeld hb4 hbd4 j2 j3 j4 s2 HG1 HH1 HB1 hTT
          obtain ⟨hg4, k0, k1, k2, k3, kf⟩ := HG4.out
          obtain ⟨hh4, j0, j1, j2, j3, jf⟩ := HH4.out
          go_wp2
          go_roundw
          case rel =>
            exact ⟨k + 1, T, by omega, by go_num, HTL.out, HG4.out.set _ _ _ _, ((setG_below (Below.refl g w4) (Nat.le_refl _) _ _ _ _).cell (p := ⟨W.heap.size, 2, none⟩) (by show W.heap.size < g; omega)).trans HS4.out, setG_below HB4.out HGL.out _ _ _ _⟩
          case measure => simp [intOf]; omega
        · go_simp

          refine hK.out _ _ ?_ (fun hHeld => ?_)
          · (try dsimp only)
            obtain ⟨c0, c1, c2, c3, c4⟩ := hHeld
            exact ⟨(World.cell?_alloc_lt _ _ _ (by show g < wr.heap.size; omega)).trans c0, (World.cell?_alloc_lt _ _ _ (by show g < wr.heap.size; omega)).trans c1, (World.cell?_alloc_lt _ _ _ (by show g < wr.heap.size; omega)).trans c2, (World.cell?_alloc_lt _ _ _ (by show g < wr.heap.size; omega)).trans c3, (World.cell?_alloc_lt _ _ _ (by show b < wr.heap.size; omega)).trans c4⟩
          clear hK K
          (try simp only [Act.put, List.setIfInBounds_toArray, List.set_cons_zero, List.set_cons_succ])
          refine wpAnyH_ready (rs := [5]) (by kernel_rfl) (by simp) ?_
          refine (AllReadyH.cons (o := { dst := some 40, op := Go.Op.call { callee := Go.Callee.value (Go.Operand.func 27), args := #[Go.Operand.tmp 35, Go.Operand.tmp 39], argTypes := #[37, 33] }, type := 46, pos := "law.go:89", after := #[{ on := 0, ground := Go.Ground.data }, { on := 4, ground := Go.Ground.data }], guard := none }) rfl (fun K hK => ?_) AllReadyH.nil)
          go_simp
          refine ((HT).out _).mono ?_
          rintro e w1 ⟨rfl, hb⟩
          have hbd : Below (wr.alloc (.cells #[.float .f64 0, .float .f64 0, .float .f64 0, .int .u32 0] 37)).heap.size (wr.alloc (.cells #[.float .f64 0, .float .f64 0, .float .f64 0, .int .u32 0] 37)) w1 := ((Below.refl (wr.alloc (.cells #[.float .f64 0, .float .f64 0, .float .f64 0, .int .u32 0] 37)).heap.size (wr.alloc (.cells #[.float .f64 0, .float .f64 0, .float .f64 0, .int .u32 0] 37))).drew).trans hb
          have HGn : Hid (GAt w1 wr.heap.size 0 0 0 0) := GAt.call GAt.new hbd
          obtain ⟨_, n0, n1, n2, n3, nf⟩ := HGn.out
          refine hK.out _ _ ?_ (fun hHeld => ?_)
          · (try dsimp only)
            obtain ⟨c0, c1, c2, c3, c4⟩ := hHeld
            exact ⟨(hb.cell (p := ⟨g, _, none⟩) (by show g < (wr.alloc _).heap.size; simp; omega)).trans c0, (hb.cell (p := ⟨g, _, none⟩) (by show g < (wr.alloc _).heap.size; simp; omega)).trans c1, (hb.cell (p := ⟨g, _, none⟩) (by show g < (wr.alloc _).heap.size; simp; omega)).trans c2, (hb.cell (p := ⟨g, _, none⟩) (by show g < (wr.alloc _).heap.size; simp; omega)).trans c3, (hb.cell (p := ⟨b, _, none⟩) (by show b < (wr.alloc _).heap.size; simp; omega)).trans c4⟩
          clear hK K
          (try simp only [Act.put, List.setIfInBounds_toArray, List.set_cons_zero, List.set_cons_succ])
          refine wpAnyH_take (i := 6) (oi := { dst := some 34, op := Go.Op.move (Go.Operand.tmp 40), type := 46, pos := "law.go:89", after := #[{ on := 5, ground := Go.Ground.data }], guard := none }) (v := ?_) rfl (by kernel_rfl) (by kernel_rfl) (by kernel_rfl) (fun _ _ _ h => h) (Or.inl ⟨by rfl, ?_⟩) (by assumption) ?_
          rotate_left
          · intro w hSw
            (try dsimp only at hSw)
            go_simp
            try with_reducible rfl
          (try simp only [Act.put, List.setIfInBounds_toArray, List.set_cons_zero, List.set_cons_succ])
          refine wpAnyH_take (i := 7) (oi := { dst := some 41, op := Go.Op.extract (Go.Operand.tmp 34) 0, type := 37, pos := "law.go:89", after := #[{ on := 6, ground := Go.Ground.data }], guard := none }) (v := ?_) rfl (by kernel_rfl) (by kernel_rfl) (by kernel_rfl) (fun _ _ _ h => h) (Or.inl ⟨by rfl, ?_⟩) (by assumption) ?_
          rotate_left
          · intro w hSw
            (try dsimp only at hSw)
            go_simp
            try with_reducible rfl
          (try simp only [Act.put, List.setIfInBounds_toArray, List.set_cons_zero, List.set_cons_succ])
          refine wpAnyH_take (i := 8) (oi := { dst := some 42, op := Go.Op.extract (Go.Operand.tmp 34) 1, type := 4, pos := "law.go:89", after := #[{ on := 6, ground := Go.Ground.data }, { on := 10, ground := Go.Ground.gcOnly Go.Departure.lateStores }], guard := none }) (v := ?_) rfl (by kernel_rfl) (by kernel_rfl) (by kernel_rfl) (fun _ _ _ h => h) (Or.inl ⟨by rfl, ?_⟩) (by assumption) ?_
          rotate_left
          · intro w hSw
            (try dsimp only at hSw)
            go_simp
            try with_reducible rfl
          (try simp only [Act.put, List.setIfInBounds_toArray, List.set_cons_zero, List.set_cons_succ])
          refine wpAnyH_ready (rs := [10]) (by kernel_rfl) (by simp) ?_
          refine (AllReadyH.cons (o := { dst := none, op := Go.Op.store 37 (Go.Operand.tmp 11) (Go.Operand.tmp 41), type := 0, pos := "law.go:89", after := #[{ on := 9, ground := Go.Ground.data }, { on := 7, ground := Go.Ground.data }, { on := 5, ground := Go.Ground.chain }, { on := 0, ground := Go.Ground.phase }, { on := 1, ground := Go.Ground.phase }, { on := 2, ground := Go.Ground.phase }, { on := 3, ground := Go.Ground.phase }, { on := 4, ground := Go.Ground.phase }, { on := 5, ground := Go.Ground.phase }, { on := 6, ground := Go.Ground.phase }, { on := 7, ground := Go.Ground.phase }, { on := 8, ground := Go.Ground.textOnly Go.Departure.lateStores }, { on := 9, ground := Go.Ground.phase }], guard := none }) rfl (fun K hK => ?_) AllReadyH.nil)
          go_simp

          refine hK.out _ _ ?_ (fun hHeld => ?_)
          · (try dsimp only)
            obtain ⟨c0, c1, c2, c3, c4⟩ := hHeld
            exact ⟨((setG_below (Below.refl wr.heap.size w1) (Nat.le_refl _) lv mo x T).cell (p := ⟨g, _, none⟩) (by show g < wr.heap.size; omega)).trans c0, ((setG_below (Below.refl wr.heap.size w1) (Nat.le_refl _) lv mo x T).cell (p := ⟨g, _, none⟩) (by show g < wr.heap.size; omega)).trans c1, ((setG_below (Below.refl wr.heap.size w1) (Nat.le_refl _) lv mo x T).cell (p := ⟨g, _, none⟩) (by show g < wr.heap.size; omega)).trans c2, ((setG_below (Below.refl wr.heap.size w1) (Nat.le_refl _) lv mo x T).cell (p := ⟨g, _, none⟩) (by show g < wr.heap.size; omega)).trans c3, ((setG_below (Below.refl wr.heap.size w1) (Nat.le_refl _) lv mo x T).cell (p := ⟨b, _, none⟩) (by show b < wr.heap.size; omega)).trans c4⟩
          clear hK K
          (try simp only [Act.put, List.setIfInBounds_toArray, List.set_cons_zero, List.set_cons_succ])
          refine wpAnyH_take (i := 11) (oi := { dst := some 12, op := Go.Op.assign (Go.Operand.tmp 42), type := 4, pos := "law.go:89", after := #[{ on := 8, ground := Go.Ground.data }, { on := 10, ground := Go.Ground.chain }, { on := 0, ground := Go.Ground.phase }, { on := 1, ground := Go.Ground.phase }, { on := 2, ground := Go.Ground.phase }, { on := 3, ground := Go.Ground.phase }, { on := 4, ground := Go.Ground.phase }, { on := 5, ground := Go.Ground.phase }, { on := 6, ground := Go.Ground.phase }, { on := 7, ground := Go.Ground.phase }, { on := 8, ground := Go.Ground.phase }, { on := 9, ground := Go.Ground.phase }, { on := 10, ground := Go.Ground.phase }], guard := none }) (v := ?_) rfl (by kernel_rfl) (by kernel_rfl) (by kernel_rfl) (fun _ _ _ h => h) (Or.inl ⟨by rfl, ?_⟩) (by assumption) ?_
          rotate_left
          · intro w hSw
            (try dsimp only at hSw)
            go_simp
            try with_reducible rfl
          (try simp only [Act.put, List.setIfInBounds_toArray, List.set_cons_zero, List.set_cons_succ])
          refine wpAnyH_done (by kernel_rfl) ?_ _
          obtain ⟨w2, hw2⟩ : ∃ w2, w2 = setG w1 wr.heap.size lv mo x T := ⟨_, rfl⟩
          have hzz := hbd.size
          simp only [World.size_alloc] at hzz
          have HG1 : Hid (GAt w2 g lv mo x t) := by rw [hw2]; exact ((HG.out.alloc _).call hbd).below (setG_below (Below.refl wr.heap.size w1) (Nat.le_refl _) _ _ _ _) hgl
          have HB1 : Hid (Below W.heap.size W w2) := by rw [hw2]; exact setG_below ((HB.out.alloc HB.out.size _).trans (hbd.mono (by have := HB.out.size; simp; omega))) HB.out.size _ _ _ _
          obtain ⟨h, hh⟩ : ∃ h, h = wr.heap.size := ⟨_, rfl⟩
          have HH1 : Hid (GAt w2 h lv mo x T) := by rw [hw2, hh]; exact HGn.out.set _ _ _ _
          have hne : g ≠ h := by rw [hh]; omega
          have HBR : Hid (Below wr.heap.size wr w2) := by rw [hw2]; exact setG_below (((Below.refl wr.heap.size wr).alloc (Nat.le_refl _) _).trans (hbd.mono (by simp))) (Nat.le_refl _) _ _ _ _
          unfold setG at hw2
          try rw [← hh]
          rw [← hh] at hw2
          rw [← hw2]
          clear hw2 hh hbd hb hHeld HGn n0 n1 n2 n3 nf
          obtain ⟨hh2, _, _, j2, j3, _⟩ := HH1.out
          have hz2 := HBR.out.size
          have s2 : w2.cell? ⟨W.heap.size, 2, none⟩ = some (.float .f64 x) := (HBR.out.cell (p := ⟨W.heap.size, 2, none⟩) (by show W.heap.size < wr.heap.size; omega)).trans HS.out
          have j4 : w2.cell? ⟨b, off + k, none⟩ = some (.int .u32 (T : Int)) := (HBR.out.cell (p := ⟨b, off + k, none⟩) (by show b < wr.heap.size; omega)).trans c4
          have hTT : ((T : Int) != (T : Int)) = false := by simp
          clear HG HB c0 c1 c2 c3 c4 HS
          go_wp2_with fail
          refine wp_region_held_drew (S := fun w' => w'.cell? ⟨h, 2, none⟩ = some (.float .f64 x) ∧ w'.cell? ⟨h, 3, none⟩ = some (.int .u32 (T : Int)) ∧ w'.cell? ⟨W.heap.size, 2, none⟩ = some (.float .f64 x) ∧ w'.cell? ⟨b, off + k, none⟩ = some (.int .u32 (T : Int))) (by kernel_rfl) ?_ (fun hHeld => ?_)
          · exact ⟨j2, j3, s2, j4⟩
          refine wpAnyH_take (i := 0) (oi := { dst := some 43, op := Go.Op.move (Go.Operand.tmp 12), type := 4, pos := "law.go:90", after := #[], guard := none }) (v := ?_) rfl (by kernel_rfl) (by kernel_rfl) (by kernel_rfl) (fun _ _ _ h => h) (Or.inl ⟨by rfl, ?_⟩) (by assumption) ?_
          rotate_left
          · intro w hSw
            (try dsimp only at hSw)
            go_simp
            try with_reducible rfl
          (try simp only [Act.put, List.setIfInBounds_toArray, List.set_cons_zero, List.set_cons_succ])
          refine wpAnyH_take (i := 1) (oi := { dst := some 44, op := Go.Op.unOp Go.UnOp.not 4 (Go.Operand.tmp 43), type := 4, pos := "law.go:90", after := #[{ on := 0, ground := Go.Ground.data }], guard := none }) (v := ?_) rfl (by kernel_rfl) (by kernel_rfl) (by kernel_rfl) (fun _ _ _ h => h) (Or.inl ⟨by rfl, ?_⟩) (by assumption) ?_
          rotate_left
          · intro w hSw
            (try dsimp only at hSw)
            go_simp
            try with_reducible rfl
          (try simp only [Act.put, List.setIfInBounds_toArray, List.set_cons_zero, List.set_cons_succ])
          refine wpAnyH_take (i := 2) (oi := { dst := some 45, op := Go.Op.move (Go.Operand.tmp 44), type := 4, pos := "law.go:90", after := #[{ on := 1, ground := Go.Ground.data }], guard := none }) (v := ?_) rfl (by kernel_rfl) (by kernel_rfl) (by kernel_rfl) (fun _ _ _ h => h) (Or.inl ⟨by rfl, ?_⟩) (by assumption) ?_
          rotate_left
          · intro w hSw
            (try dsimp only at hSw)
            go_simp
            try with_reducible rfl
          (try simp only [Act.put, List.setIfInBounds_toArray, List.set_cons_zero, List.set_cons_succ])
          refine wpAnyH_take (i := 3) (oi := { dst := some 46, op := Go.Op.fieldAddr 37 (Go.Operand.tmp 11) 2, type := 0, pos := "law.go:90", after := #[{ on := 2, ground := Go.Ground.guard }], guard := some (2, false) }) (v := ?_) rfl (by kernel_rfl) (by kernel_rfl) (by kernel_rfl) (fun _ _ _ h => h) (Or.inl ⟨by rfl, ?_⟩) (by assumption) ?_
          rotate_left
          · intro w hSw
            (try dsimp only at hSw)
            go_simp
            try with_reducible rfl
          (try simp only [Act.put, List.setIfInBounds_toArray, List.set_cons_zero, List.set_cons_succ])
          refine wpAnyH_take (i := 4) (oi := { dst := some 47, op := Go.Op.load 22 (Go.Operand.tmp 46), type := 22, pos := "law.go:90", after := #[{ on := 3, ground := Go.Ground.data }, { on := 2, ground := Go.Ground.guard }], guard := some (2, false) }) (v := ?_) rfl (by kernel_rfl) (by kernel_rfl) (by kernel_rfl) (fun _ _ _ h => h) (Or.inl ⟨by rfl, ?_⟩) (by assumption) ?_
          rotate_left
          · intro w hSw
            (try dsimp only at hSw)
            go_simp
            try with_reducible rfl
          (try simp only [Act.put, List.setIfInBounds_toArray, List.set_cons_zero, List.set_cons_succ])
          refine wpAnyH_take (i := 5) (oi := { dst := some 48, op := Go.Op.fieldAddr 35 (Go.Operand.tmp 3) 2, type := 0, pos := "law.go:90", after := #[{ on := 2, ground := Go.Ground.guard }], guard := some (2, false) }) (v := ?_) rfl (by kernel_rfl) (by kernel_rfl) (by kernel_rfl) (fun _ _ _ h => h) (Or.inl ⟨by rfl, ?_⟩) (by assumption) ?_
          rotate_left
          · intro w hSw
            (try dsimp only at hSw)
            go_simp
            try with_reducible rfl
          (try simp only [Act.put, List.setIfInBounds_toArray, List.set_cons_zero, List.set_cons_succ])
          refine wpAnyH_take (i := 6) (oi := { dst := some 49, op := Go.Op.load 22 (Go.Operand.tmp 48), type := 22, pos := "law.go:90", after := #[{ on := 5, ground := Go.Ground.data }, { on := 2, ground := Go.Ground.guard }], guard := some (2, false) }) (v := ?_) rfl (by kernel_rfl) (by kernel_rfl) (by kernel_rfl) (fun _ _ _ h => h) (Or.inl ⟨by rfl, ?_⟩) (by assumption) ?_
          rotate_left
          · intro w hSw
            (try dsimp only at hSw)
            go_simp
            try with_reducible rfl
          (try simp only [Act.put, List.setIfInBounds_toArray, List.set_cons_zero, List.set_cons_succ])
          refine wpAnyH_ready (rs := [7]) (by kernel_rfl) (by simp) ?_
          refine AllReadyH.cons (o := { dst := some 50, op := Go.Op.call { callee := Go.Callee.value (Go.Operand.func 14), args := #[Go.Operand.tmp 47, Go.Operand.tmp 49], argTypes := #[22, 22] }, type := 4, pos := "law.go:90", after := #[{ on := 4, ground := Go.Ground.data }, { on := 6, ground := Go.Ground.data }, { on := 2, ground := Go.Ground.chain }, { on := 2, ground := Go.Ground.guard }], guard := some (2, false) }) rfl (fun K hK => ?_) AllReadyH.nil
          go_simp
          refine (HSM.out _).mono ?_
          rintro e w4 ⟨rfl, hb4⟩
          have hbd4 : Below w2.heap.size w2 w4 := ((Below.refl w2.heap.size w2).drew).trans hb4
          have HG4 := Lib.hid (HG1.out.call hbd4)
          have HH4 := Lib.hid (HH1.out.call hbd4)
          have HB4 := Lib.hid (HB1.out.trans (hbd4.mono HB1.out.size))
          have HS4 : Hid (w4.cell? ⟨W.heap.size, 2, none⟩ = some (.float .f64 x)) := (hbd4.cell (p := ⟨W.heap.size, 2, none⟩) (by show W.heap.size < w2.heap.size; omega)).trans s2
          have hz4 := hbd4.size
          refine hK.out _ _ ?_ (fun hHeld => ?_)
          · (try dsimp only)
            obtain ⟨q0, q1, q2, q3⟩ := hHeld
            exact ⟨(hb4.cell (p := ⟨h, _, none⟩) (by show h < w2.heap.size; omega)).trans q0, (hb4.cell (p := ⟨h, _, none⟩) (by show h < w2.heap.size; omega)).trans q1, (hb4.cell (p := ⟨W.heap.size, _, none⟩) (by show W.heap.size < w2.heap.size; omega)).trans q2, (hb4.cell (p := ⟨b, _, none⟩) (by show b < w2.heap.size; omega)).trans q3⟩
          clear hK K
          (try simp only [Act.put, List.setIfInBounds_toArray, List.set_cons_zero, List.set_cons_succ])
          refine wpAnyH_take (i := 8) (oi := { dst := some 51, op := Go.Op.unOp Go.UnOp.not 4 (Go.Operand.tmp 50), type := 4, pos := "law.go:90", after := #[{ on := 7, ground := Go.Ground.data }, { on := 2, ground := Go.Ground.guard }], guard := some (2, false) }) (v := ?_) rfl (by kernel_rfl) (by kernel_rfl) (by kernel_rfl) (fun _ _ _ h => h) (Or.inl ⟨by rfl, ?_⟩) (by assumption) ?_
          rotate_left
          · intro w hSw
            (try dsimp only at hSw)
            go_simp
            try with_reducible rfl
          (try simp only [Act.put, List.setIfInBounds_toArray, List.set_cons_zero, List.set_cons_succ])
          refine wpAnyH_take (i := 9) (oi := { dst := some 52, op := Go.Op.pick (Go.Operand.tmp 45) (Go.Operand.const (Go.Value.bool true)) (Go.Operand.tmp 51), type := 4, pos := "law.go:90", after := #[{ on := 2, ground := Go.Ground.data }, { on := 8, ground := Go.Ground.data }], guard := none }) (v := ?_) rfl (by kernel_rfl) (by kernel_rfl) (by kernel_rfl) (fun _ _ _ h => h) (Or.inl ⟨by rfl, ?_⟩) (by assumption) ?_
          rotate_left
          · intro w hSw
            (try dsimp only at hSw)
            go_simp
            try with_reducible rfl
          (try simp only [Act.put, List.setIfInBounds_toArray, List.set_cons_zero, List.set_cons_succ])
          refine wpAnyH_take (i := 10) (oi := { dst := some 53, op := Go.Op.move (Go.Operand.tmp 52), type := 4, pos := "law.go:90", after := #[{ on := 9, ground := Go.Ground.data }, { on := 7, ground := Go.Ground.chain }], guard := none }) (v := ?_) rfl (by kernel_rfl) (by kernel_rfl) (by kernel_rfl) (fun _ _ _ h => h) (Or.inl ⟨by rfl, ?_⟩) (by assumption) ?_
          rotate_left
          · intro w hSw
            (try dsimp only at hSw)
            go_simp
            try with_reducible rfl
          (try simp only [Act.put, List.setIfInBounds_toArray, List.set_cons_zero, List.set_cons_succ])
          refine wpAnyH_take (i := 11) (oi := { dst := some 54, op := Go.Op.fieldAddr 37 (Go.Operand.tmp 11) 3, type := 0, pos := "law.go:90", after := #[{ on := 10, ground := Go.Ground.guard }], guard := some (10, false) }) (v := ?_) rfl (by kernel_rfl) (by kernel_rfl) (by kernel_rfl) (fun _ _ _ h => h) (Or.inl ⟨by rfl, ?_⟩) (by assumption) ?_
          rotate_left
          · intro w hSw
            (try dsimp only at hSw)
            go_simp
            try with_reducible rfl
          (try simp only [Act.put, List.setIfInBounds_toArray, List.set_cons_zero, List.set_cons_succ])
          refine wpAnyH_take (i := 12) (oi := { dst := some 55, op := Go.Op.load 33 (Go.Operand.tmp 54), type := 33, pos := "law.go:90", after := #[{ on := 11, ground := Go.Ground.data }, { on := 10, ground := Go.Ground.guard }], guard := some (10, false) }) (v := ?_) rfl (by kernel_rfl) (by kernel_rfl) (by kernel_rfl) (fun _ _ _ h => h) (Or.inl ⟨by rfl, ?_⟩) (by assumption) ?_
          rotate_left
          · intro w hSw
            (try dsimp only at hSw)
            go_simp
            try with_reducible rfl
          (try simp only [Act.put, List.setIfInBounds_toArray, List.set_cons_zero, List.set_cons_succ])
          refine wpAnyH_take (i := 13) (oi := { dst := some 56, op := Go.Op.move (Go.Operand.tmp 1), type := 36, pos := "law.go:90", after := #[{ on := 10, ground := Go.Ground.guard }], guard := some (10, false) }) (v := ?_) rfl (by kernel_rfl) (by kernel_rfl) (by kernel_rfl) (fun _ _ _ h => h) (Or.inl ⟨by rfl, ?_⟩) (by assumption) ?_
          rotate_left
          · intro w hSw
            (try dsimp only at hSw)
            go_simp
            try with_reducible rfl
          (try simp only [Act.put, List.setIfInBounds_toArray, List.set_cons_zero, List.set_cons_succ])
          refine wpAnyH_take (i := 14) (oi := { dst := some 57, op := Go.Op.move (Go.Operand.tmp 10), type := 3, pos := "law.go:90", after := #[{ on := 10, ground := Go.Ground.guard }], guard := some (10, false) }) (v := ?_) rfl (by kernel_rfl) (by kernel_rfl) (by kernel_rfl) (fun _ _ _ h => h) (Or.inl ⟨by rfl, ?_⟩) (by assumption) ?_
          rotate_left
          · intro w hSw
            (try dsimp only at hSw)
            go_simp
            try with_reducible rfl
          (try simp only [Act.put, List.setIfInBounds_toArray, List.set_cons_zero, List.set_cons_succ])
          refine wpAnyH_take (i := 15) (oi := { dst := some 58, op := Go.Op.indexAddr 36 (Go.Operand.tmp 56) (Go.Operand.tmp 57), type := 0, pos := "law.go:90", after := #[{ on := 13, ground := Go.Ground.data }, { on := 14, ground := Go.Ground.data }, { on := 10, ground := Go.Ground.guard }], guard := some (10, false) }) (v := ?_) rfl (by kernel_rfl) (by kernel_rfl) (by kernel_rfl) (fun _ _ _ h => h) (Or.inl ⟨by rfl, ?_⟩) (by assumption) ?_
          rotate_left
          · intro w hSw
            (try dsimp only at hSw)
            go_simp
            try with_reducible rfl
          (try simp only [Act.put, List.setIfInBounds_toArray, List.set_cons_zero, List.set_cons_succ])
          refine wpAnyH_take (i := 16) (oi := { dst := some 59, op := Go.Op.load 33 (Go.Operand.tmp 58), type := 33, pos := "law.go:90", after := #[{ on := 15, ground := Go.Ground.data }, { on := 10, ground := Go.Ground.guard }], guard := some (10, false) }) (v := ?_) rfl (by kernel_rfl) (by kernel_rfl) (by kernel_rfl) (fun _ _ _ h => h) (Or.inl ⟨by rfl, ?_⟩) (by assumption) ?_
          rotate_left
          · intro w hSw
            (try dsimp only at hSw)
            go_simp
            try with_reducible rfl
          (try simp only [Act.put, List.setIfInBounds_toArray, List.set_cons_zero, List.set_cons_succ])
          refine wpAnyH_take (i := 17) (oi := { dst := some 60, op := Go.Op.binOp Go.BinOp.neq 33 (Go.Operand.tmp 55) (Go.Operand.tmp 59) 33, type := 4, pos := "law.go:90", after := #[{ on := 12, ground := Go.Ground.data }, { on := 16, ground := Go.Ground.data }, { on := 10, ground := Go.Ground.guard }], guard := some (10, false) }) (v := ?_) rfl (by kernel_rfl) (by kernel_rfl) (by kernel_rfl) (fun _ _ _ h => h) (Or.inl ⟨by rfl, ?_⟩) (by assumption) ?_
          rotate_left
          · intro w hSw
            (try dsimp only at hSw)
            go_simp
            try with_reducible rfl
          (try simp only [Act.put, List.setIfInBounds_toArray, List.set_cons_zero, List.set_cons_succ])
          refine wpAnyH_take (i := 18) (oi := { dst := some 61, op := Go.Op.pick (Go.Operand.tmp 53) (Go.Operand.const (Go.Value.bool true)) (Go.Operand.tmp 60), type := 4, pos := "law.go:90", after := #[{ on := 10, ground := Go.Ground.data }, { on := 17, ground := Go.Ground.data }], guard := none }) (v := ?_) rfl (by kernel_rfl) (by kernel_rfl) (by kernel_rfl) (fun _ _ _ h => h) (Or.inl ⟨by rfl, ?_⟩) (by assumption) ?_
          rotate_left
          · intro w hSw
            (try dsimp only at hSw)
            go_simp
            try with_reducible rfl
          (try simp only [Act.put, List.setIfInBounds_toArray, List.set_cons_zero, List.set_cons_succ])
          refine wpAnyH_done (by kernel_rfl) ?_ _
          clear hHeld hb4 hbd4 j2 j3 j4 s2 HG1 HH1 HB1 hTT
          obtain ⟨hg4, k0, k1, k2, k3, kf⟩ := HG4.out
          obtain ⟨hh4, j0, j1, j2, j3, jf⟩ := HH4.out
          go_wp2
          go_roundw
          case rel =>
            exact ⟨k + 1, T, by omega, by go_num, HTL.out, HG4.out.set _ _ _ _, ((setG_below (Below.refl g w4) (Nat.le_refl _) _ _ _ _).cell (p := ⟨W.heap.size, 2, none⟩) (by show W.heap.size < g; omega)).trans HS4.out, setG_below HB4.out HGL.out _ _ _ _⟩
          case measure => simp [intOf]; omega
      · have hfin := HNN.out k hk hlt
        have HOPC := Lib.hid fun W => gauge_Open lv mo x t HLV.out W
        rw [HOP.out] at HOPC
        have HT5 := Lib.hid fun (w : World) => told05 w
        rcases hfin with hfin | hfin
        · have hf : ¬ (k : Int) < (n : Int) := by omega
          go_wp2_with fail
          refine (HT5.out _).mono ?_
          rintro e w4 ⟨rfl, hb⟩
          have HG4 := Lib.hid (HG.out.call hb)
          have HB4 := Lib.hid (HB.out.trans (hb.mono HB.out.size))
          clear hb HG HB HS
          obtain ⟨hg4, k0, k1, k2, k3, kf⟩ := HG4.out
          go_wp2_with fail
          refine (HOPC.out _).mono ?_
          rintro e w5 ⟨rfl, hb⟩
          have HB5 := Lib.hid (HB4.out.trans (hb.mono HB4.out.size))
          clear hb
          go_wp2
          go_ret
          exact ⟨rfl, HB5.out⟩
        · have hf : ¬ (k : Int) < 100 := by omega
          by_cases hkn : (k : Int) < (n : Int)
          · go_wp2_with fail
            refine (HT5.out _).mono ?_
            rintro e w4 ⟨rfl, hb⟩
            have HG4 := Lib.hid (HG.out.call hb)
            have HB4 := Lib.hid (HB.out.trans (hb.mono HB.out.size))
            clear hb HG HB HS
            obtain ⟨hg4, k0, k1, k2, k3, kf⟩ := HG4.out
            go_wp2_with fail
            refine (HOPC.out _).mono ?_
            rintro e w5 ⟨rfl, hb⟩
            have HB5 := Lib.hid (HB4.out.trans (hb.mono HB4.out.size))
            clear hb
            go_wp2
            go_ret
            exact ⟨rfl, HB5.out⟩
          · go_wp2_with fail
            refine (HT5.out _).mono ?_
            rintro e w4 ⟨rfl, hb⟩
            have HG4 := Lib.hid (HG.out.call hb)
            have HB4 := Lib.hid (HB.out.trans (hb.mono HB.out.size))
            clear hb HG HB HS
            obtain ⟨hg4, k0, k1, k2, k3, kf⟩ := HG4.out
            go_wp2_with fail
            refine (HOPC.out _).mono ?_
            rintro e w5 ⟨rfl, hb⟩
            have HB5 := Lib.hid (HB4.out.trans (hb.mono HB4.out.size))
            clear hb
            go_wp2
            go_ret
            exact ⟨rfl, HB5.out⟩

set_option maxRecDepth 100000 in
/-- What the walk gives, for every argument: the row's own words. -/
theorem contract (H : Type) (enc : TypeId × Value → H) (W : World) (base : Nat) (args : Array Value) (ds gs : List (DataW H)) (before : List MemPlace)
    (hval : ∀ (j : Nat) t v, Try.f7.params[j]? = some t → args[j]? = some v → Value.okWide Try.prog W .any base t v)
    (hW : DataW.Whole enc Try.prog Try.f7.params.toList Rows.gaugeOpensSpec.vars false W args.toList ds gs before) :
    Calls Try.prog 7 args W fun e W' => ∃ v, e = .returned v ∧ Rows.gaugeOpensSpec.post enc Try.prog Try.f7 false true false false W args v W' := by
  have hW' := hW
  obtain ⟨p, q, hA0, hV, rfl, hfz, hnd⟩ := hW
  have hA : DataW.TrodAll enc Try.prog W 0 (fun _ => true) true Try.f7.params.toList args.toList ds p := hA0
  rw [Try.params7] at hA hval
  obtain ⟨v0, vs0, d0, ds0, p0, q0, hargs, rfl, rfl, h0, r0⟩ := trodAll_cons hA
  obtain ⟨v1, vs1, d1, ds1, p1, q1, rfl, rfl, rfl, h1, r1⟩ := trodAll_cons r0
  obtain ⟨v2, vs2, d2, ds2, p2, q2, rfl, rfl, rfl, h2, r2⟩ := trodAll_cons r1
  obtain ⟨rfl, rfl, rfl⟩ := trodAll_nil r2
  obtain rfl : args = #[v0, v1, v2] := by cases args; simp_all
  obtain ⟨a0, m0, rr0, k0, rfl, b0, bm0, br0, bk0⟩ := open_gauge Try.underlying35 (t0 := 22) (t1 := 22) (t2 := 22) (t3 := 33) (by kernel_rfl) (by kernel_rfl) (by kernel_rfl) (by kernel_rfl) (by kernel_rfl) (by kernel_rfl) (hval 0 35 v0 rfl rfl) h0
  obtain ⟨l1, b1, c1⟩ := open_u32s Try.underlying36 Try.underlying33 (by kernel_rfl) (hval 1 36 v1 rfl rfl) h1
  obtain ⟨a2, rfl, _, _⟩ := open_bool Try.underlying4 (hval 2 4 v2 rfl rfl) h2
  refine (walk W a0 m0 rr0 k0 b0 bm0 br0 bk0 v1 l1 b1 c1 a2).mono fun e W' ⟨he, hb⟩ => ?_
  subst he
  exact close_true (by kernel_rfl) Try.underlying4 (by kernel_rfl) (by kernel_rfl) rfl rfl hW' hb

set_option maxRecDepth 100000 in
theorem lifted (os : Os) (started : os.Started) (H : Type) (enc : TypeId × Value → H) :
    ReturnsInHanded {} Try.checked os 7 .any (Rows.gaugeOpensSpec.pre6 enc Try.prog Try.f7 Rows.gaugeOpensRow.domain false) (Rows.gaugeOpensSpec.post enc Try.prog Try.f7 false true false false) := by
  refine returnsInHanded_of_change (C := Try.checked) own started (by kernel_rfl) Try.func7
    (ChangeSpec.witness6 (enc := enc) (C := Try.checked) false ⟨#[], #[.agg #[.float .f64 0, .float .f64 0, .float .f64 0, .int .u32 0], .slice none 0 0, .bool false], []⟩ 8 (by kernel_rfl) (by kernel_rfl) (by kernel_rfl) (by kernel_rfl)) ?_
  intro W base args ds gs before hval hW _ _
  exact contract H enc W base args ds gs before hval hW

theorem proved : Rows.GaugeOpensSaid :=
  OpenClaim.holds_of_wide 7 Try.f7 rfl rfl rfl rfl rfl rfl rfl ⟨rfl, rfl, rfl, rfl, rfl⟩ rfl rfl rfl rfl rfl (by kernel_rfl) Try.func7 (by kernel_rfl)
    (of_decide_eq_true (by kernel_rfl)) (by unfold Func.isWrapper; first | (rw [if_pos (by decide +kernel)]; kernel_rfl) | (rw [if_neg (by decide +kernel)]; exact ⟨rfl, rfl⟩))
    (fun os started H enc _ => lifted os started H enc)
#print axioms proved
end Go.Proofs.Ytdgjgddobjhekaa.gaugeOpens
