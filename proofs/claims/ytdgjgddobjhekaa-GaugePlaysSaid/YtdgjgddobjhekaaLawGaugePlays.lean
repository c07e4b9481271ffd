/-
  Of all gauges and ticks the program tells, frame by frame, whether one may come, and how the gauge stands then, as the document tells. No condition.
-/
import Derived.Test.YtdgjgddobjhekaaRows
import Derived.Test.YtdgjgddobjhekaaGaugeM
import Derived.Test.YtdgjgddobjhekaaBase
import Derived.Test.YtdgjgddobjhekaaWords
import Derived.Test.YtdgjgddobjhekaaOpenGa
import Derived.Deep.RegionHeld3
import Derived.Deep.DeepCutAuto
import Derived.WalkKit
import Derived.ProofKit
import Derived.OpenShut
namespace Go.Proofs.Ytdgjgddobjhekaa.gaugePlays
open Go.ChangeShapes Go.WideShapes Go.ChangeAt Go.RowKit
open Go.ChangeMaps (open_string)
set_option linter.unusedVariables false

theorem own : ownKnob Try.prog.godebug = none := by kernel_rfl
theorem frozen_alloc {w : World} {b : Nat} (h : ∀ o, w.frozen? ⟨b, o, none⟩ = false) (hb : b < w.heap.size) (obj : Obj) (o : Nat) : (w.alloc obj).frozen? ⟨b, o, none⟩ = false := by
  have := (bcell ((Below.refl w.heap.size w).alloc (Nat.le_refl _) obj)).2 b o hb
  rw [this]; exact h o

set_option maxRecDepth 20000 in
set_option maxHeartbeats 25600000 in
theorem walk (W : World) (a0 m0 r0 k0 : Nat) (b0 : a0 < 18446744073709551616) (bm0 : m0 < 18446744073709551616) (br0 : r0 < 18446744073709551616) (bk0 : k0 < 4294967296) (a1 : Value) (l1 : List Nat) (b1 : Sl W W.heap.size 1 a1 l1.length (uv l1)) (c1 : ∀ x ∈ l1, x < 4294967296) :
    Calls Try.prog 5 #[.agg #[.float .f64 a0, .float .f64 m0, .float .f64 r0, .int .u32 (k0 : Int)], a1] W (Says (.bool true) W) := by
  have hst := st_float
  obtain ⟨lv, hlv⟩ : ∃ lv, lv = a0 := ⟨_, rfl⟩
  obtain ⟨mo, hmo⟩ : ∃ mo, mo = m0 := ⟨_, rfl⟩
  obtain ⟨x, hx⟩ : ∃ x, x = r0 := ⟨_, rfl⟩
  obtain ⟨t, ht⟩ : ∃ t, t = k0 := ⟨_, rfl⟩
  subst hlv hmo hx ht
  have HLV := Lib.hid b0
  have HMO := Lib.hid bm0
  have HTO := Lib.hid fun w => law5_To lv mo x t w
  have HFR := Lib.hid fun q u (w : World) => law5_From lv mo q u w
  have HEQ := Lib.hid fun q u (hq : q < 18446744073709551616) (w : World) => ref5_Equal lv mo q u b0 bm0 hq w
  have HNEW := Lib.hid fun w => gauge_New lv mo t w
  have HOP1 := Lib.hid fun w => gauge_Open lv mo x t b0 w
  have HOP2 := Lib.hid fun w => ref5_Open lv mo x t b0 w
  have HTOLD := Lib.hid told05
  generalize openW lv = op at *
  have hop : (op != op) = false := by cases op <;> rfl
  have HSTEP := Lib.hid fun x t T (hx : x < 18446744073709551616) (ht : t < 4294967296) (hT : T < 4294967296) => play_step (lv := lv) (mo := mo) (x := x) (t := t) (T := T) b0 bm0 hx ht hT
  have HX0 := Lib.hid br0
  have HT0 := Lib.hid bk0
  obtain ⟨A, cap, rfl, h1, h2⟩ := b1.form
  unfold maxLen at h2
  obtain ⟨n, hn⟩ : ∃ n, n = l1.length := ⟨_, rfl⟩
  rw [← hn] at b1 h1 ⊢
  have HTK : Hid (0 < n → ∃ b off, A = some ⟨b, off, none⟩ ∧ b < W.heap.size ∧ ∀ i, i < n → W.cell? ⟨b, off + i, none⟩ = some (.int .u32 (l1.getD i 0 : Nat))) := fun hp => by
    obtain ⟨b, off, cap', hv, _, _, hbb, _, hc⟩ := b1.wordAt hp
    injection hv with q1 q2 q3
    exact ⟨b, off, q1, hbb, fun i hi => hc i hi⟩
  have HL2 : Hid (∀ i, l1.getD i 0 < 4294967296) := fun i => word_lt c1 i
  obtain ⟨K, hK⟩ : ∃ K, K = min n 200 := ⟨_, rfl⟩
  have hK1 : K ≤ n := by omega
  have hK2 : K ≤ 200 := by omega
  have HNN : Hid (∀ k, k ≤ K → ¬ k < K → (n ≤ k ∨ 200 ≤ k)) := fun k a b => by omega
  clear b1 c1 hK hn b0 bm0 br0 bk0
  go_enter Try.func5, Try.ntmps5
  go_upto_region 1 with fail
  obtain ⟨wa, hwa⟩ : ∃ w', w' = W.alloc (.cells #[.float .f64 lv, .float .f64 mo, .float .f64 x, .int .u32 (t : Int)] 35) := ⟨_, rfl⟩
  have H_bx : Hid (GAt wa W.heap.size lv mo x t) := by rw [hwa]; exact GAt.new
  have HB : Hid (Below W.heap.size W wa) := by rw [hwa]; exact (Below.refl _ _).alloc (Nat.le_refl _) _
  rw [← hwa]
  clear hwa
  go_cut [5, 6] (fun p5 p6 wx => ∃ g5 g6 : Nat, p5 = .pointer (some ⟨g5, 0, none⟩) ∧ p6 = .pointer (some ⟨g6, 0, none⟩) ∧ g5 ≠ g6 ∧ W.heap.size < g5 ∧ W.heap.size < g6 ∧ Hid (GAt wx W.heap.size lv mo x t) ∧ Hid (GAt wx g5 lv mo x t) ∧ Hid (GAt wx g6 lv mo x t) ∧ Hid (Below W.heap.size W wx))
  case first =>
    have l_bx := H_bx.out.1
    have l_W := HB.out.size
    obtain ⟨_, s_bx_0, s_bx_1, s_bx_2, s_bx_3, _⟩ := H_bx.out
    refine wp_region_held_drew (S := fun w' => w'.cell? ⟨W.heap.size, 0, none⟩ = some (.float .f64 lv) ∧ w'.cell? ⟨W.heap.size, 1, none⟩ = some (.float .f64 mo) ∧ w'.cell? ⟨W.heap.size, 2, none⟩ = some (.float .f64 x) ∧ w'.cell? ⟨W.heap.size, 3, none⟩ = some (.int .u32 (t : Int))) (by kernel_rfl) ?_ (fun hHeld => ?_)
    · exact ⟨s_bx_0, s_bx_1, s_bx_2, s_bx_3⟩
    obtain ⟨v0, hv0⟩ : ∃ w', w' = wa.drew := ⟨_, rfl⟩
    have H_bx_0 : Hid (GAt v0 W.heap.size lv mo x t) := by rw [hv0]; exact H_bx.out
    have HB_0 : Hid (Below W.heap.size W v0) := by rw [hv0]; exact HB.out.drew
    rw [← hv0] at hHeld ⊢
    clear hv0 s_bx_0 s_bx_1 s_bx_2 s_bx_3
    refine wpAnyH_take (i := 0) (oi := { dst := some 12, op := Go.Op.load 35 (Go.Operand.tmp 2), type := 35, pos := "law.go:44", after := #[], guard := none }) (v := ?_) rfl (by kernel_rfl) (by kernel_rfl) (by kernel_rfl) (fun _ _ _ h => h) (Or.inl ⟨by rfl, ?_⟩) (by assumption) ?_
    rotate_left
    · intro w hSw
      (try dsimp only at hSw)
      go_simp
      try with_reducible rfl
    (try simp only [Act.put, List.setIfInBounds_toArray, List.set_cons_zero, List.set_cons_succ])
    refine wpAnyH_take (i := 2) (oi := { dst := some 14, op := Go.Op.load 35 (Go.Operand.tmp 2), type := 35, pos := "law.go:44", after := #[{ on := 5, ground := Go.Ground.gcOnly Go.Departure.lateStores }], guard := none }) (v := ?_) rfl (by kernel_rfl) (by kernel_rfl) (by kernel_rfl) (fun _ _ _ h => h) (Or.inl ⟨by rfl, ?_⟩) (by assumption) ?_
    rotate_left
    · intro w hSw
      (try dsimp only at hSw)
      go_simp
      try with_reducible rfl
    (try simp only [Act.put, List.setIfInBounds_toArray, List.set_cons_zero, List.set_cons_succ])
    refine wpAnyH_ready (rs := [1, 3, 4]) (by kernel_rfl) (by simp) ?_
    refine (AllReadyH.cons (o := { dst := some 13, op := Go.Op.call { callee := Go.Callee.value (Go.Operand.func 19), args := #[Go.Operand.tmp 12], argTypes := #[35] }, type := 37, pos := "law.go:44", after := #[{ on := 0, ground := Go.Ground.data }], guard := none }) rfl (fun K hK => ?_) (AllReadyH.cons (o := { dst := some 5, op := Go.Op.alloc 37, type := 0, pos := "law.go:44", after := #[], guard := none }) rfl (fun K hK => ?_) (AllReadyH.cons (o := { dst := some 6, op := Go.Op.alloc 35, type := 0, pos := "law.go:44", after := #[], guard := none }) rfl (fun K hK => ?_) AllReadyH.nil)))
    · go_simp
      have l_bx := H_bx_0.out.1
      have l_W := HB_0.out.size
      refine (HTO.out _).mono ?_
      rintro e v1 ⟨rfl, hb⟩
      refine hK.out _ _ ?_ (fun hHeld => ?_)
      · (try dsimp only)
        obtain ⟨q0, q1, q2, q3⟩ := hHeld
        exact ⟨(hb.cell (p := ⟨W.heap.size, _, none⟩) (by show W.heap.size < v0.heap.size; omega)).trans q0, (hb.cell (p := ⟨W.heap.size, _, none⟩) (by show W.heap.size < v0.heap.size; omega)).trans q1, (hb.cell (p := ⟨W.heap.size, _, none⟩) (by show W.heap.size < v0.heap.size; omega)).trans q2, (hb.cell (p := ⟨W.heap.size, _, none⟩) (by show W.heap.size < v0.heap.size; omega)).trans q3⟩
      clear hK K
      (try simp only [Act.put, List.setIfInBounds_toArray, List.set_cons_zero, List.set_cons_succ])
      have H_bx_1 := Lib.hid (H_bx_0.out.call hb)
      have HB_1 := Lib.hid (HB_0.out.trans (hb.mono HB_0.out.size))
      clear hb
      refine wpAnyH_ready (rs := [3, 4]) (by kernel_rfl) (by simp) ?_
      refine (AllReadyH.cons (o := { dst := some 5, op := Go.Op.alloc 37, type := 0, pos := "law.go:44", after := #[], guard := none }) rfl (fun K hK => ?_) (AllReadyH.cons (o := { dst := some 6, op := Go.Op.alloc 35, type := 0, pos := "law.go:44", after := #[], guard := none }) rfl (fun K hK => ?_) AllReadyH.nil))
      · go_simp
        have l_bx := H_bx_1.out.1
        have l_W := HB_1.out.size

        refine hK.out _ _ ?_ (fun hHeld => ?_)
        · (try dsimp only)
          obtain ⟨q0, q1, q2, q3⟩ := hHeld
          exact ⟨(World.cell?_alloc_lt _ _ _ (by show W.heap.size < v1.heap.size; omega)).trans q0, (World.cell?_alloc_lt _ _ _ (by show W.heap.size < v1.heap.size; omega)).trans q1, (World.cell?_alloc_lt _ _ _ (by show W.heap.size < v1.heap.size; omega)).trans q2, (World.cell?_alloc_lt _ _ _ (by show W.heap.size < v1.heap.size; omega)).trans q3⟩
        clear hK K
        (try simp only [Act.put, List.setIfInBounds_toArray, List.set_cons_zero, List.set_cons_succ])
        obtain ⟨g5, hgn⟩ : ∃ g', g' = v1.heap.size := ⟨_, rfl⟩
        obtain ⟨v2, hvn⟩ : ∃ w', w' = v1.alloc (.cells #[.float .f64 0, .float .f64 0, .float .f64 0, .int .u32 0] 37) := ⟨_, rfl⟩
        have H_bx_2 : Hid (GAt v2 W.heap.size lv mo x t) := by rw [hvn]; exact H_bx_1.out.alloc _
        have H_g5_2 : Hid (GAt v2 g5 0 0 0 0) := by rw [hvn, hgn]; exact GAt.new
        have HB_2 : Hid (Below W.heap.size W v2) := by rw [hvn]; exact HB_1.out.alloc HB_1.out.size _
        have ne_g5_bx : W.heap.size < g5 := by rw [hgn]; omega
        rw [← hvn] at hHeld ⊢
        try rw [← hgn]
        clear hvn hgn
        refine wpAnyH_ready (rs := [4]) (by kernel_rfl) (by simp) ?_
        refine (AllReadyH.cons (o := { dst := some 6, op := Go.Op.alloc 35, type := 0, pos := "law.go:44", after := #[], guard := none }) rfl (fun K hK => ?_) AllReadyH.nil)
        go_simp
        have l_bx := H_bx_2.out.1
        have l_g5 := H_g5_2.out.1
        have l_W := HB_2.out.size

        refine hK.out _ _ ?_ (fun hHeld => ?_)
        · (try dsimp only)
          obtain ⟨q0, q1, q2, q3⟩ := hHeld
          exact ⟨(World.cell?_alloc_lt _ _ _ (by show W.heap.size < v2.heap.size; omega)).trans q0, (World.cell?_alloc_lt _ _ _ (by show W.heap.size < v2.heap.size; omega)).trans q1, (World.cell?_alloc_lt _ _ _ (by show W.heap.size < v2.heap.size; omega)).trans q2, (World.cell?_alloc_lt _ _ _ (by show W.heap.size < v2.heap.size; omega)).trans q3⟩
        clear hK K
        (try simp only [Act.put, List.setIfInBounds_toArray, List.set_cons_zero, List.set_cons_succ])
        obtain ⟨g6, hgn⟩ : ∃ g', g' = v2.heap.size := ⟨_, rfl⟩
        obtain ⟨v3, hvn⟩ : ∃ w', w' = v2.alloc (.cells #[.float .f64 0, .float .f64 0, .float .f64 0, .int .u32 0] 35) := ⟨_, rfl⟩
        have H_bx_3 : Hid (GAt v3 W.heap.size lv mo x t) := by rw [hvn]; exact H_bx_2.out.alloc _
        have H_g5_3 : Hid (GAt v3 g5 0 0 0 0) := by rw [hvn]; exact H_g5_2.out.alloc _
        have H_g6_3 : Hid (GAt v3 g6 0 0 0 0) := by rw [hvn, hgn]; exact GAt.new
        have HB_3 : Hid (Below W.heap.size W v3) := by rw [hvn]; exact HB_2.out.alloc HB_2.out.size _
        have ne_g6_bx : W.heap.size < g6 := by rw [hgn]; omega
        have ne_g6_g5 : g5 < g6 := by rw [hgn]; omega
        rw [← hvn] at hHeld ⊢
        try rw [← hgn]
        clear hvn hgn
        have l_bx := H_bx_3.out.1
        have l_g5 := H_g5_3.out.1
        have l_g6 := H_g6_3.out.1
        have l_W := HB_3.out.size
        obtain ⟨_, p0, p1, p2, p3, pf⟩ := H_g5_3.out
        refine wpAnyH_ready (rs := [5]) (by kernel_rfl) (by simp) ?_
        refine (AllReadyH.cons (o := { dst := none, op := Go.Op.store 37 (Go.Operand.tmp 5) (Go.Operand.tmp 13), type := 0, pos := "law.go:44", after := #[{ on := 3, ground := Go.Ground.data }, { on := 1, ground := Go.Ground.data }, { on := 1, ground := Go.Ground.chain }, { on := 0, ground := Go.Ground.phase }, { on := 1, ground := Go.Ground.phase }, { on := 2, ground := Go.Ground.textOnly Go.Departure.lateStores }, { on := 3, ground := Go.Ground.phase }, { on := 4, ground := Go.Ground.phase }], guard := none }) rfl (fun K hK => ?_) AllReadyH.nil)
        go_simp

        refine hK.out _ _ ?_ (fun hHeld => ?_)
        · (try dsimp only)
          exact ⟨(H_bx_3.out.other (show W.heap.size ≠ g5 by omega) lv mo x t).2.1, (H_bx_3.out.other (show W.heap.size ≠ g5 by omega) lv mo x t).2.2.1, (H_bx_3.out.other (show W.heap.size ≠ g5 by omega) lv mo x t).2.2.2.1, (H_bx_3.out.other (show W.heap.size ≠ g5 by omega) lv mo x t).2.2.2.2.1⟩
        clear hK K
        (try simp only [Act.put, List.setIfInBounds_toArray, List.set_cons_zero, List.set_cons_succ])
        obtain ⟨v4, hvn⟩ : ∃ w', w' = setG v3 g5 lv mo x t := ⟨_, rfl⟩
        have H_bx_4 : Hid (GAt v4 W.heap.size lv mo x t) := by rw [hvn]; exact H_bx_3.out.other (by omega) _ _ _ _
        have H_g6_4 : Hid (GAt v4 g6 0 0 0 0) := by rw [hvn]; exact H_g6_3.out.other (by omega) _ _ _ _
        have H_g5_4 : Hid (GAt v4 g5 lv mo x t) := by rw [hvn]; exact H_g5_3.out.set _ _ _ _
        have HB_4 : Hid (Below W.heap.size W v4) := by rw [hvn]; exact setG_below HB_3.out (by omega) _ _ _ _
        unfold setG at hvn
        rw [← hvn] at hHeld ⊢
        clear hvn p0 p1 p2 p3 pf
        have l_bx := H_bx_4.out.1
        have l_g5 := H_g5_4.out.1
        have l_g6 := H_g6_4.out.1
        have l_W := HB_4.out.size
        obtain ⟨_, p0, p1, p2, p3, pf⟩ := H_g6_4.out
        refine wpAnyH_ready (rs := [6]) (by kernel_rfl) (by simp) ?_
        refine (AllReadyH.cons (o := { dst := none, op := Go.Op.store 35 (Go.Operand.tmp 6) (Go.Operand.tmp 14), type := 0, pos := "law.go:44", after := #[{ on := 4, ground := Go.Ground.data }, { on := 2, ground := Go.Ground.data }, { on := 5, ground := Go.Ground.chain }, { on := 0, ground := Go.Ground.phase }, { on := 1, ground := Go.Ground.phase }, { on := 2, ground := Go.Ground.phase }, { on := 3, ground := Go.Ground.phase }, { on := 4, ground := Go.Ground.phase }, { on := 5, ground := Go.Ground.phase }], guard := none }) rfl (fun K hK => ?_) AllReadyH.nil)
        go_simp

        refine hK.out _ _ ?_ (fun hHeld => ?_)
        · (try dsimp only)
          exact ⟨(H_bx_4.out.other (show W.heap.size ≠ g6 by omega) lv mo x t).2.1, (H_bx_4.out.other (show W.heap.size ≠ g6 by omega) lv mo x t).2.2.1, (H_bx_4.out.other (show W.heap.size ≠ g6 by omega) lv mo x t).2.2.2.1, (H_bx_4.out.other (show W.heap.size ≠ g6 by omega) lv mo x t).2.2.2.2.1⟩
        clear hK K
        (try simp only [Act.put, List.setIfInBounds_toArray, List.set_cons_zero, List.set_cons_succ])
        obtain ⟨v5, hvn⟩ : ∃ w', w' = setG v4 g6 lv mo x t := ⟨_, rfl⟩
        have H_bx_5 : Hid (GAt v5 W.heap.size lv mo x t) := by rw [hvn]; exact H_bx_4.out.other (by omega) _ _ _ _
        have H_g5_5 : Hid (GAt v5 g5 lv mo x t) := by rw [hvn]; exact H_g5_4.out.other (by omega) _ _ _ _
        have H_g6_5 : Hid (GAt v5 g6 lv mo x t) := by rw [hvn]; exact H_g6_4.out.set _ _ _ _
        have HB_5 : Hid (Below W.heap.size W v5) := by rw [hvn]; exact setG_below HB_4.out (by omega) _ _ _ _
        unfold setG at hvn
        rw [← hvn] at hHeld ⊢
        clear hvn p0 p1 p2 p3 pf
        refine wpAnyH_done (by kernel_rfl) ?_ _
        clear hHeld
        go_wp2_with fail
        go_meet
        exact ⟨g5, g6, rfl, rfl, by omega, by omega, by omega, H_bx_5, H_g5_5, H_g6_5, HB_5⟩
      · go_simp
        have l_bx := H_bx_1.out.1
        have l_W := HB_1.out.size

        refine hK.out _ _ ?_ (fun hHeld => ?_)
        · (try dsimp only)
          obtain ⟨q0, q1, q2, q3⟩ := hHeld
          exact ⟨(World.cell?_alloc_lt _ _ _ (by show W.heap.size < v1.heap.size; omega)).trans q0, (World.cell?_alloc_lt _ _ _ (by show W.heap.size < v1.heap.size; omega)).trans q1, (World.cell?_alloc_lt _ _ _ (by show W.heap.size < v1.heap.size; omega)).trans q2, (World.cell?_alloc_lt _ _ _ (by show W.heap.size < v1.heap.size; omega)).trans q3⟩
        clear hK K
        (try simp only [Act.put, List.setIfInBounds_toArray, List.set_cons_zero, List.set_cons_succ])
        obtain ⟨g6, hgn⟩ : ∃ g', g' = v1.heap.size := ⟨_, rfl⟩
        obtain ⟨v2, hvn⟩ : ∃ w', w' = v1.alloc (.cells #[.float .f64 0, .float .f64 0, .float .f64 0, .int .u32 0] 35) := ⟨_, rfl⟩
        have H_bx_2 : Hid (GAt v2 W.heap.size lv mo x t) := by rw [hvn]; exact H_bx_1.out.alloc _
        have H_g6_2 : Hid (GAt v2 g6 0 0 0 0) := by rw [hvn, hgn]; exact GAt.new
        have HB_2 : Hid (Below W.heap.size W v2) := by rw [hvn]; exact HB_1.out.alloc HB_1.out.size _
        have ne_g6_bx : W.heap.size < g6 := by rw [hgn]; omega
        rw [← hvn] at hHeld ⊢
        try rw [← hgn]
        clear hvn hgn
        refine wpAnyH_ready (rs := [3]) (by kernel_rfl) (by simp) ?_
        refine (AllReadyH.cons (o := { dst := some 5, op := Go.Op.alloc 37, type := 0, pos := "law.go:44", after := #[], guard := none }) rfl (fun K hK => ?_) AllReadyH.nil)
        go_simp
        have l_bx := H_bx_2.out.1
        have l_g6 := H_g6_2.out.1
        have l_W := HB_2.out.size

        refine hK.out _ _ ?_ (fun hHeld => ?_)
        · (try dsimp only)
          obtain ⟨q0, q1, q2, q3⟩ := hHeld
          exact ⟨(World.cell?_alloc_lt _ _ _ (by show W.heap.size < v2.heap.size; omega)).trans q0, (World.cell?_alloc_lt _ _ _ (by show W.heap.size < v2.heap.size; omega)).trans q1, (World.cell?_alloc_lt _ _ _ (by show W.heap.size < v2.heap.size; omega)).trans q2, (World.cell?_alloc_lt _ _ _ (by show W.heap.size < v2.heap.size; omega)).trans q3⟩
        clear hK K
        (try simp only [Act.put, List.setIfInBounds_toArray, List.set_cons_zero, List.set_cons_succ])
        obtain ⟨g5, hgn⟩ : ∃ g', g' = v2.heap.size := ⟨_, rfl⟩
        obtain ⟨v3, hvn⟩ : ∃ w', w' = v2.alloc (.cells #[.float .f64 0, .float .f64 0, .float .f64 0, .int .u32 0] 37) := ⟨_, rfl⟩
        have H_bx_3 : Hid (GAt v3 W.heap.size lv mo x t) := by rw [hvn]; exact H_bx_2.out.alloc _
        have H_g6_3 : Hid (GAt v3 g6 0 0 0 0) := by rw [hvn]; exact H_g6_2.out.alloc _
        have H_g5_3 : Hid (GAt v3 g5 0 0 0 0) := by rw [hvn, hgn]; exact GAt.new
        have HB_3 : Hid (Below W.heap.size W v3) := by rw [hvn]; exact HB_2.out.alloc HB_2.out.size _
        have ne_g5_bx : W.heap.size < g5 := by rw [hgn]; omega
        have ne_g5_g6 : g6 < g5 := by rw [hgn]; omega
        rw [← hvn] at hHeld ⊢
        try rw [← hgn]
        clear hvn hgn
        have l_bx := H_bx_3.out.1
        have l_g6 := H_g6_3.out.1
        have l_g5 := H_g5_3.out.1
        have l_W := HB_3.out.size
        obtain ⟨_, p0, p1, p2, p3, pf⟩ := H_g5_3.out
        refine wpAnyH_ready (rs := [5]) (by kernel_rfl) (by simp) ?_
        refine (AllReadyH.cons (o := { dst := none, op := Go.Op.store 37 (Go.Operand.tmp 5) (Go.Operand.tmp 13), type := 0, pos := "law.go:44", after := #[{ on := 3, ground := Go.Ground.data }, { on := 1, ground := Go.Ground.data }, { on := 1, ground := Go.Ground.chain }, { on := 0, ground := Go.Ground.phase }, { on := 1, ground := Go.Ground.phase }, { on := 2, ground := Go.Ground.textOnly Go.Departure.lateStores }, { on := 3, ground := Go.Ground.phase }, { on := 4, ground := Go.Ground.phase }], guard := none }) rfl (fun K hK => ?_) AllReadyH.nil)
        go_simp

        refine hK.out _ _ ?_ (fun hHeld => ?_)
        · (try dsimp only)
          exact ⟨(H_bx_3.out.other (show W.heap.size ≠ g5 by omega) lv mo x t).2.1, (H_bx_3.out.other (show W.heap.size ≠ g5 by omega) lv mo x t).2.2.1, (H_bx_3.out.other (show W.heap.size ≠ g5 by omega) lv mo x t).2.2.2.1, (H_bx_3.out.other (show W.heap.size ≠ g5 by omega) lv mo x t).2.2.2.2.1⟩
        clear hK K
        (try simp only [Act.put, List.setIfInBounds_toArray, List.set_cons_zero, List.set_cons_succ])
        obtain ⟨v4, hvn⟩ : ∃ w', w' = setG v3 g5 lv mo x t := ⟨_, rfl⟩
        have H_bx_4 : Hid (GAt v4 W.heap.size lv mo x t) := by rw [hvn]; exact H_bx_3.out.other (by omega) _ _ _ _
        have H_g6_4 : Hid (GAt v4 g6 0 0 0 0) := by rw [hvn]; exact H_g6_3.out.other (by omega) _ _ _ _
        have H_g5_4 : Hid (GAt v4 g5 lv mo x t) := by rw [hvn]; exact H_g5_3.out.set _ _ _ _
        have HB_4 : Hid (Below W.heap.size W v4) := by rw [hvn]; exact setG_below HB_3.out (by omega) _ _ _ _
        unfold setG at hvn
        rw [← hvn] at hHeld ⊢
        clear hvn p0 p1 p2 p3 pf
        have l_bx := H_bx_4.out.1
        have l_g6 := H_g6_4.out.1
        have l_g5 := H_g5_4.out.1
        have l_W := HB_4.out.size
        obtain ⟨_, p0, p1, p2, p3, pf⟩ := H_g6_4.out
        refine wpAnyH_ready (rs := [6]) (by kernel_rfl) (by simp) ?_
        refine (AllReadyH.cons (o := { dst := none, op := Go.Op.store 35 (Go.Operand.tmp 6) (Go.Operand.tmp 14), type := 0, pos := "law.go:44", after := #[{ on := 4, ground := Go.Ground.data }, { on := 2, ground := Go.Ground.data }, { on := 5, ground := Go.Ground.chain }, { on := 0, ground := Go.Ground.phase }, { on := 1, ground := Go.Ground.phase }, { on := 2, ground := Go.Ground.phase }, { on := 3, ground := Go.Ground.phase }, { on := 4, ground := Go.Ground.phase }, { on := 5, ground := Go.Ground.phase }], guard := none }) rfl (fun K hK => ?_) AllReadyH.nil)
        go_simp

        refine hK.out _ _ ?_ (fun hHeld => ?_)
        · (try dsimp only)
          exact ⟨(H_bx_4.out.other (show W.heap.size ≠ g6 by omega) lv mo x t).2.1, (H_bx_4.out.other (show W.heap.size ≠ g6 by omega) lv mo x t).2.2.1, (H_bx_4.out.other (show W.heap.size ≠ g6 by omega) lv mo x t).2.2.2.1, (H_bx_4.out.other (show W.heap.size ≠ g6 by omega) lv mo x t).2.2.2.2.1⟩
        clear hK K
        (try simp only [Act.put, List.setIfInBounds_toArray, List.set_cons_zero, List.set_cons_succ])
        obtain ⟨v5, hvn⟩ : ∃ w', w' = setG v4 g6 lv mo x t := ⟨_, rfl⟩
        have H_bx_5 : Hid (GAt v5 W.heap.size lv mo x t) := by rw [hvn]; exact H_bx_4.out.other (by omega) _ _ _ _
        have H_g5_5 : Hid (GAt v5 g5 lv mo x t) := by rw [hvn]; exact H_g5_4.out.other (by omega) _ _ _ _
        have H_g6_5 : Hid (GAt v5 g6 lv mo x t) := by rw [hvn]; exact H_g6_4.out.set _ _ _ _
        have HB_5 : Hid (Below W.heap.size W v5) := by rw [hvn]; exact setG_below HB_4.out (by omega) _ _ _ _
        unfold setG at hvn
        rw [← hvn] at hHeld ⊢
        clear hvn p0 p1 p2 p3 pf
        refine wpAnyH_done (by kernel_rfl) ?_ _
        clear hHeld
        go_wp2_with fail
        go_meet
        exact ⟨g5, g6, rfl, rfl, by omega, by omega, by omega, H_bx_5, H_g5_5, H_g6_5, HB_5⟩
    · go_simp
      have l_bx := H_bx_0.out.1
      have l_W := HB_0.out.size

      refine hK.out _ _ ?_ (fun hHeld => ?_)
      · (try dsimp only)
        obtain ⟨q0, q1, q2, q3⟩ := hHeld
        exact ⟨(World.cell?_alloc_lt _ _ _ (by show W.heap.size < v0.heap.size; omega)).trans q0, (World.cell?_alloc_lt _ _ _ (by show W.heap.size < v0.heap.size; omega)).trans q1, (World.cell?_alloc_lt _ _ _ (by show W.heap.size < v0.heap.size; omega)).trans q2, (World.cell?_alloc_lt _ _ _ (by show W.heap.size < v0.heap.size; omega)).trans q3⟩
      clear hK K
      (try simp only [Act.put, List.setIfInBounds_toArray, List.set_cons_zero, List.set_cons_succ])
      obtain ⟨g5, hgn⟩ : ∃ g', g' = v0.heap.size := ⟨_, rfl⟩
      obtain ⟨v1, hvn⟩ : ∃ w', w' = v0.alloc (.cells #[.float .f64 0, .float .f64 0, .float .f64 0, .int .u32 0] 37) := ⟨_, rfl⟩
      have H_bx_1 : Hid (GAt v1 W.heap.size lv mo x t) := by rw [hvn]; exact H_bx_0.out.alloc _
      have H_g5_1 : Hid (GAt v1 g5 0 0 0 0) := by rw [hvn, hgn]; exact GAt.new
      have HB_1 : Hid (Below W.heap.size W v1) := by rw [hvn]; exact HB_0.out.alloc HB_0.out.size _
      have ne_g5_bx : W.heap.size < g5 := by rw [hgn]; omega
      rw [← hvn] at hHeld ⊢
      try rw [← hgn]
      clear hvn hgn
      refine wpAnyH_ready (rs := [1, 4]) (by kernel_rfl) (by simp) ?_
      refine (AllReadyH.cons (o := { dst := some 13, op := Go.Op.call { callee := Go.Callee.value (Go.Operand.func 19), args := #[Go.Operand.tmp 12], argTypes := #[35] }, type := 37, pos := "law.go:44", after := #[{ on := 0, ground := Go.Ground.data }], guard := none }) rfl (fun K hK => ?_) (AllReadyH.cons (o := { dst := some 6, op := Go.Op.alloc 35, type := 0, pos := "law.go:44", after := #[], guard := none }) rfl (fun K hK => ?_) AllReadyH.nil))
      · go_simp
        have l_bx := H_bx_1.out.1
        have l_g5 := H_g5_1.out.1
        have l_W := HB_1.out.size
        refine (HTO.out _).mono ?_
        rintro e v2 ⟨rfl, hb⟩
        refine hK.out _ _ ?_ (fun hHeld => ?_)
        · (try dsimp only)
          obtain ⟨q0, q1, q2, q3⟩ := hHeld
          exact ⟨(hb.cell (p := ⟨W.heap.size, _, none⟩) (by show W.heap.size < v1.heap.size; omega)).trans q0, (hb.cell (p := ⟨W.heap.size, _, none⟩) (by show W.heap.size < v1.heap.size; omega)).trans q1, (hb.cell (p := ⟨W.heap.size, _, none⟩) (by show W.heap.size < v1.heap.size; omega)).trans q2, (hb.cell (p := ⟨W.heap.size, _, none⟩) (by show W.heap.size < v1.heap.size; omega)).trans q3⟩
        clear hK K
        (try simp only [Act.put, List.setIfInBounds_toArray, List.set_cons_zero, List.set_cons_succ])
        have H_bx_2 := Lib.hid (H_bx_1.out.call hb)
        have H_g5_2 := Lib.hid (H_g5_1.out.call hb)
        have HB_2 := Lib.hid (HB_1.out.trans (hb.mono HB_1.out.size))
        clear hb
        refine wpAnyH_ready (rs := [4]) (by kernel_rfl) (by simp) ?_
        refine (AllReadyH.cons (o := { dst := some 6, op := Go.Op.alloc 35, type := 0, pos := "law.go:44", after := #[], guard := none }) rfl (fun K hK => ?_) AllReadyH.nil)
        go_simp
        have l_bx := H_bx_2.out.1
        have l_g5 := H_g5_2.out.1
        have l_W := HB_2.out.size

        refine hK.out _ _ ?_ (fun hHeld => ?_)
        · (try dsimp only)
          obtain ⟨q0, q1, q2, q3⟩ := hHeld
          exact ⟨(World.cell?_alloc_lt _ _ _ (by show W.heap.size < v2.heap.size; omega)).trans q0, (World.cell?_alloc_lt _ _ _ (by show W.heap.size < v2.heap.size; omega)).trans q1, (World.cell?_alloc_lt _ _ _ (by show W.heap.size < v2.heap.size; omega)).trans q2, (World.cell?_alloc_lt _ _ _ (by show W.heap.size < v2.heap.size; omega)).trans q3⟩
        clear hK K
        (try simp only [Act.put, List.setIfInBounds_toArray, List.set_cons_zero, List.set_cons_succ])
        obtain ⟨g6, hgn⟩ : ∃ g', g' = v2.heap.size := ⟨_, rfl⟩
        obtain ⟨v3, hvn⟩ : ∃ w', w' = v2.alloc (.cells #[.float .f64 0, .float .f64 0, .float .f64 0, .int .u32 0] 35) := ⟨_, rfl⟩
        have H_bx_3 : Hid (GAt v3 W.heap.size lv mo x t) := by rw [hvn]; exact H_bx_2.out.alloc _
        have H_g5_3 : Hid (GAt v3 g5 0 0 0 0) := by rw [hvn]; exact H_g5_2.out.alloc _
        have H_g6_3 : Hid (GAt v3 g6 0 0 0 0) := by rw [hvn, hgn]; exact GAt.new
        have HB_3 : Hid (Below W.heap.size W v3) := by rw [hvn]; exact HB_2.out.alloc HB_2.out.size _
        have ne_g6_bx : W.heap.size < g6 := by rw [hgn]; omega
        have ne_g6_g5 : g5 < g6 := by rw [hgn]; omega
        rw [← hvn] at hHeld ⊢
        try rw [← hgn]
        clear hvn hgn
        have l_bx := H_bx_3.out.1
        have l_g5 := H_g5_3.out.1
        have l_g6 := H_g6_3.out.1
        have l_W := HB_3.out.size
        obtain ⟨_, p0, p1, p2, p3, pf⟩ := H_g5_3.out
        refine wpAnyH_ready (rs := [5]) (by kernel_rfl) (by simp) ?_
        refine (AllReadyH.cons (o := { dst := none, op := Go.Op.store 37 (Go.Operand.tmp 5) (Go.Operand.tmp 13), type := 0, pos := "law.go:44", after := #[{ on := 3, ground := Go.Ground.data }, { on := 1, ground := Go.Ground.data }, { on := 1, ground := Go.Ground.chain }, { on := 0, ground := Go.Ground.phase }, { on := 1, ground := Go.Ground.phase }, { on := 2, ground := Go.Ground.textOnly Go.Departure.lateStores }, { on := 3, ground := Go.Ground.phase }, { on := 4, ground := Go.Ground.phase }], guard := none }) rfl (fun K hK => ?_) AllReadyH.nil)
        go_simp

        refine hK.out _ _ ?_ (fun hHeld => ?_)
        · (try dsimp only)
          exact ⟨(H_bx_3.out.other (show W.heap.size ≠ g5 by omega) lv mo x t).2.1, (H_bx_3.out.other (show W.heap.size ≠ g5 by omega) lv mo x t).2.2.1, (H_bx_3.out.other (show W.heap.size ≠ g5 by omega) lv mo x t).2.2.2.1, (H_bx_3.out.other (show W.heap.size ≠ g5 by omega) lv mo x t).2.2.2.2.1⟩
        clear hK K
        (try simp only [Act.put, List.setIfInBounds_toArray, List.set_cons_zero, List.set_cons_succ])
        obtain ⟨v4, hvn⟩ : ∃ w', w' = setG v3 g5 lv mo x t := ⟨_, rfl⟩
        have H_bx_4 : Hid (GAt v4 W.heap.size lv mo x t) := by rw [hvn]; exact H_bx_3.out.other (by omega) _ _ _ _
        have H_g6_4 : Hid (GAt v4 g6 0 0 0 0) := by rw [hvn]; exact H_g6_3.out.other (by omega) _ _ _ _
        have H_g5_4 : Hid (GAt v4 g5 lv mo x t) := by rw [hvn]; exact H_g5_3.out.set _ _ _ _
        have HB_4 : Hid (Below W.heap.size W v4) := by rw [hvn]; exact setG_below HB_3.out (by omega) _ _ _ _
        unfold setG at hvn
        rw [← hvn] at hHeld ⊢
        clear hvn p0 p1 p2 p3 pf
        have l_bx := H_bx_4.out.1
        have l_g5 := H_g5_4.out.1
        have l_g6 := H_g6_4.out.1
        have l_W := HB_4.out.size
        obtain ⟨_, p0, p1, p2, p3, pf⟩ := H_g6_4.out
        refine wpAnyH_ready (rs := [6]) (by kernel_rfl) (by simp) ?_
        refine (AllReadyH.cons (o := { dst := none, op := Go.Op.store 35 (Go.Operand.tmp 6) (Go.Operand.tmp 14), type := 0, pos := "law.go:44", after := #[{ on := 4, ground := Go.Ground.data }, { on := 2, ground := Go.Ground.data }, { on := 5, ground := Go.Ground.chain }, { on := 0, ground := Go.Ground.phase }, { on := 1, ground := Go.Ground.phase }, { on := 2, ground := Go.Ground.phase }, { on := 3, ground := Go.Ground.phase }, { on := 4, ground := Go.Ground.phase }, { on := 5, ground := Go.Ground.phase }], guard := none }) rfl (fun K hK => ?_) AllReadyH.nil)
        go_simp

        refine hK.out _ _ ?_ (fun hHeld => ?_)
        · (try dsimp only)
          exact ⟨(H_bx_4.out.other (show W.heap.size ≠ g6 by omega) lv mo x t).2.1, (H_bx_4.out.other (show W.heap.size ≠ g6 by omega) lv mo x t).2.2.1, (H_bx_4.out.other (show W.heap.size ≠ g6 by omega) lv mo x t).2.2.2.1, (H_bx_4.out.other (show W.heap.size ≠ g6 by omega) lv mo x t).2.2.2.2.1⟩
        clear hK K
        (try simp only [Act.put, List.setIfInBounds_toArray, List.set_cons_zero, List.set_cons_succ])
        obtain ⟨v5, hvn⟩ : ∃ w', w' = setG v4 g6 lv mo x t := ⟨_, rfl⟩
        have H_bx_5 : Hid (GAt v5 W.heap.size lv mo x t) := by rw [hvn]; exact H_bx_4.out.other (by omega) _ _ _ _
        have H_g5_5 : Hid (GAt v5 g5 lv mo x t) := by rw [hvn]; exact H_g5_4.out.other (by omega) _ _ _ _
        have H_g6_5 : Hid (GAt v5 g6 lv mo x t) := by rw [hvn]; exact H_g6_4.out.set _ _ _ _
        have HB_5 : Hid (Below W.heap.size W v5) := by rw [hvn]; exact setG_below HB_4.out (by omega) _ _ _ _
        unfold setG at hvn
        rw [← hvn] at hHeld ⊢
        clear hvn p0 p1 p2 p3 pf
        refine wpAnyH_done (by kernel_rfl) ?_ _
        clear hHeld
        go_wp2_with fail
        go_meet
        exact ⟨g5, g6, rfl, rfl, by omega, by omega, by omega, H_bx_5, H_g5_5, H_g6_5, HB_5⟩
      · go_simp
        have l_bx := H_bx_1.out.1
        have l_g5 := H_g5_1.out.1
        have l_W := HB_1.out.size

        refine hK.out _ _ ?_ (fun hHeld => ?_)
        · (try dsimp only)
          obtain ⟨q0, q1, q2, q3⟩ := hHeld
          exact ⟨(World.cell?_alloc_lt _ _ _ (by show W.heap.size < v1.heap.size; omega)).trans q0, (World.cell?_alloc_lt _ _ _ (by show W.heap.size < v1.heap.size; omega)).trans q1, (World.cell?_alloc_lt _ _ _ (by show W.heap.size < v1.heap.size; omega)).trans q2, (World.cell?_alloc_lt _ _ _ (by show W.heap.size < v1.heap.size; omega)).trans q3⟩
        clear hK K
        (try simp only [Act.put, List.setIfInBounds_toArray, List.set_cons_zero, List.set_cons_succ])
        obtain ⟨g6, hgn⟩ : ∃ g', g' = v1.heap.size := ⟨_, rfl⟩
        obtain ⟨v2, hvn⟩ : ∃ w', w' = v1.alloc (.cells #[.float .f64 0, .float .f64 0, .float .f64 0, .int .u32 0] 35) := ⟨_, rfl⟩
        have H_bx_2 : Hid (GAt v2 W.heap.size lv mo x t) := by rw [hvn]; exact H_bx_1.out.alloc _
        have H_g5_2 : Hid (GAt v2 g5 0 0 0 0) := by rw [hvn]; exact H_g5_1.out.alloc _
        have H_g6_2 : Hid (GAt v2 g6 0 0 0 0) := by rw [hvn, hgn]; exact GAt.new
        have HB_2 : Hid (Below W.heap.size W v2) := by rw [hvn]; exact HB_1.out.alloc HB_1.out.size _
        have ne_g6_bx : W.heap.size < g6 := by rw [hgn]; omega
        have ne_g6_g5 : g5 < g6 := by rw [hgn]; omega
        rw [← hvn] at hHeld ⊢
        try rw [← hgn]
        clear hvn hgn
        refine wpAnyH_ready (rs := [1]) (by kernel_rfl) (by simp) ?_
        refine (AllReadyH.cons (o := { dst := some 13, op := Go.Op.call { callee := Go.Callee.value (Go.Operand.func 19), args := #[Go.Operand.tmp 12], argTypes := #[35] }, type := 37, pos := "law.go:44", after := #[{ on := 0, ground := Go.Ground.data }], guard := none }) rfl (fun K hK => ?_) AllReadyH.nil)
        go_simp
        have l_bx := H_bx_2.out.1
        have l_g5 := H_g5_2.out.1
        have l_g6 := H_g6_2.out.1
        have l_W := HB_2.out.size
        refine (HTO.out _).mono ?_
        rintro e v3 ⟨rfl, hb⟩
        refine hK.out _ _ ?_ (fun hHeld => ?_)
        · (try dsimp only)
          obtain ⟨q0, q1, q2, q3⟩ := hHeld
          exact ⟨(hb.cell (p := ⟨W.heap.size, _, none⟩) (by show W.heap.size < v2.heap.size; omega)).trans q0, (hb.cell (p := ⟨W.heap.size, _, none⟩) (by show W.heap.size < v2.heap.size; omega)).trans q1, (hb.cell (p := ⟨W.heap.size, _, none⟩) (by show W.heap.size < v2.heap.size; omega)).trans q2, (hb.cell (p := ⟨W.heap.size, _, none⟩) (by show W.heap.size < v2.heap.size; omega)).trans q3⟩
        clear hK K
        (try simp only [Act.put, List.setIfInBounds_toArray, List.set_cons_zero, List.set_cons_succ])
        have H_bx_3 := Lib.hid (H_bx_2.out.call hb)
        have H_g5_3 := Lib.hid (H_g5_2.out.call hb)
        have H_g6_3 := Lib.hid (H_g6_2.out.call hb)
        have HB_3 := Lib.hid (HB_2.out.trans (hb.mono HB_2.out.size))
        clear hb
        have l_bx := H_bx_3.out.1
        have l_g5 := H_g5_3.out.1
        have l_g6 := H_g6_3.out.1
        have l_W := HB_3.out.size
        obtain ⟨_, p0, p1, p2, p3, pf⟩ := H_g5_3.out
        refine wpAnyH_ready (rs := [5]) (by kernel_rfl) (by simp) ?_
        refine (AllReadyH.cons (o := { dst := none, op := Go.Op.store 37 (Go.Operand.tmp 5) (Go.Operand.tmp 13), type := 0, pos := "law.go:44", after := #[{ on := 3, ground := Go.Ground.data }, { on := 1, ground := Go.Ground.data }, { on := 1, ground := Go.Ground.chain }, { on := 0, ground := Go.Ground.phase }, { on := 1, ground := Go.Ground.phase }, { on := 2, ground := Go.Ground.textOnly Go.Departure.lateStores }, { on := 3, ground := Go.Ground.phase }, { on := 4, ground := Go.Ground.phase }], guard := none }) rfl (fun K hK => ?_) AllReadyH.nil)
        go_simp

        refine hK.out _ _ ?_ (fun hHeld => ?_)
        · (try dsimp only)
          exact ⟨(H_bx_3.out.other (show W.heap.size ≠ g5 by omega) lv mo x t).2.1, (H_bx_3.out.other (show W.heap.size ≠ g5 by omega) lv mo x t).2.2.1, (H_bx_3.out.other (show W.heap.size ≠ g5 by omega) lv mo x t).2.2.2.1, (H_bx_3.out.other (show W.heap.size ≠ g5 by omega) lv mo x t).2.2.2.2.1⟩
        clear hK K
        (try simp only [Act.put, List.setIfInBounds_toArray, List.set_cons_zero, List.set_cons_succ])
        obtain ⟨v4, hvn⟩ : ∃ w', w' = setG v3 g5 lv mo x t := ⟨_, rfl⟩
        have H_bx_4 : Hid (GAt v4 W.heap.size lv mo x t) := by rw [hvn]; exact H_bx_3.out.other (by omega) _ _ _ _
        have H_g6_4 : Hid (GAt v4 g6 0 0 0 0) := by rw [hvn]; exact H_g6_3.out.other (by omega) _ _ _ _
        have H_g5_4 : Hid (GAt v4 g5 lv mo x t) := by rw [hvn]; exact H_g5_3.out.set _ _ _ _
        have HB_4 : Hid (Below W.heap.size W v4) := by rw [hvn]; exact setG_below HB_3.out (by omega) _ _ _ _
        unfold setG at hvn
        rw [← hvn] at hHeld ⊢
        clear hvn p0 p1 p2 p3 pf
        have l_bx := H_bx_4.out.1
        have l_g5 := H_g5_4.out.1
        have l_g6 := H_g6_4.out.1
        have l_W := HB_4.out.size
        obtain ⟨_, p0, p1, p2, p3, pf⟩ := H_g6_4.out
        refine wpAnyH_ready (rs := [6]) (by kernel_rfl) (by simp) ?_
        refine (AllReadyH.cons (o := { dst := none, op := Go.Op.store 35 (Go.Operand.tmp 6) (Go.Operand.tmp 14), type := 0, pos := "law.go:44", after := #[{ on := 4, ground := Go.Ground.data }, { on := 2, ground := Go.Ground.data }, { on := 5, ground := Go.Ground.chain }, { on := 0, ground := Go.Ground.phase }, { on := 1, ground := Go.Ground.phase }, { on := 2, ground := Go.Ground.phase }, { on := 3, ground := Go.Ground.phase }, { on := 4, ground := Go.Ground.phase }, { on := 5, ground := Go.Ground.phase }], guard := none }) rfl (fun K hK => ?_) AllReadyH.nil)
        go_simp

        refine hK.out _ _ ?_ (fun hHeld => ?_)
        · (try dsimp only)
          exact ⟨(H_bx_4.out.other (show W.heap.size ≠ g6 by omega) lv mo x t).2.1, (H_bx_4.out.other (show W.heap.size ≠ g6 by omega) lv mo x t).2.2.1, (H_bx_4.out.other (show W.heap.size ≠ g6 by omega) lv mo x t).2.2.2.1, (H_bx_4.out.other (show W.heap.size ≠ g6 by omega) lv mo x t).2.2.2.2.1⟩
        clear hK K
        (try simp only [Act.put, List.setIfInBounds_toArray, List.set_cons_zero, List.set_cons_succ])
        obtain ⟨v5, hvn⟩ : ∃ w', w' = setG v4 g6 lv mo x t := ⟨_, rfl⟩
        have H_bx_5 : Hid (GAt v5 W.heap.size lv mo x t) := by rw [hvn]; exact H_bx_4.out.other (by omega) _ _ _ _
        have H_g5_5 : Hid (GAt v5 g5 lv mo x t) := by rw [hvn]; exact H_g5_4.out.other (by omega) _ _ _ _
        have H_g6_5 : Hid (GAt v5 g6 lv mo x t) := by rw [hvn]; exact H_g6_4.out.set _ _ _ _
        have HB_5 : Hid (Below W.heap.size W v5) := by rw [hvn]; exact setG_below HB_4.out (by omega) _ _ _ _
        unfold setG at hvn
        rw [← hvn] at hHeld ⊢
        clear hvn p0 p1 p2 p3 pf
        refine wpAnyH_done (by kernel_rfl) ?_ _
        clear hHeld
        go_wp2_with fail
        go_meet
        exact ⟨g5, g6, rfl, rfl, by omega, by omega, by omega, H_bx_5, H_g5_5, H_g6_5, HB_5⟩
    · go_simp
      have l_bx := H_bx_0.out.1
      have l_W := HB_0.out.size

      refine hK.out _ _ ?_ (fun hHeld => ?_)
      · (try dsimp only)
        obtain ⟨q0, q1, q2, q3⟩ := hHeld
        exact ⟨(World.cell?_alloc_lt _ _ _ (by show W.heap.size < v0.heap.size; omega)).trans q0, (World.cell?_alloc_lt _ _ _ (by show W.heap.size < v0.heap.size; omega)).trans q1, (World.cell?_alloc_lt _ _ _ (by show W.heap.size < v0.heap.size; omega)).trans q2, (World.cell?_alloc_lt _ _ _ (by show W.heap.size < v0.heap.size; omega)).trans q3⟩
      clear hK K
      (try simp only [Act.put, List.setIfInBounds_toArray, List.set_cons_zero, List.set_cons_succ])
      obtain ⟨g6, hgn⟩ : ∃ g', g' = v0.heap.size := ⟨_, rfl⟩
      obtain ⟨v1, hvn⟩ : ∃ w', w' = v0.alloc (.cells #[.float .f64 0, .float .f64 0, .float .f64 0, .int .u32 0] 35) := ⟨_, rfl⟩
      have H_bx_1 : Hid (GAt v1 W.heap.size lv mo x t) := by rw [hvn]; exact H_bx_0.out.alloc _
      have H_g6_1 : Hid (GAt v1 g6 0 0 0 0) := by rw [hvn, hgn]; exact GAt.new
      have HB_1 : Hid (Below W.heap.size W v1) := by rw [hvn]; exact HB_0.out.alloc HB_0.out.size _
      have ne_g6_bx : W.heap.size < g6 := by rw [hgn]; omega
      rw [← hvn] at hHeld ⊢
      try rw [← hgn]
      clear hvn hgn
      refine wpAnyH_ready (rs := [1, 3]) (by kernel_rfl) (by simp) ?_
      refine (AllReadyH.cons (o := { dst := some 13, op := Go.Op.call { callee := Go.Callee.value (Go.Operand.func 19), args := #[Go.Operand.tmp 12], argTypes := #[35] }, type := 37, pos := "law.go:44", after := #[{ on := 0, ground := Go.Ground.data }], guard := none }) rfl (fun K hK => ?_) (AllReadyH.cons (o := { dst := some 5, op := Go.Op.alloc 37, type := 0, pos := "law.go:44", after := #[], guard := none }) rfl (fun K hK => ?_) AllReadyH.nil))
      · go_simp
        have l_bx := H_bx_1.out.1
        have l_g6 := H_g6_1.out.1
        have l_W := HB_1.out.size
        refine (HTO.out _).mono ?_
        rintro e v2 ⟨rfl, hb⟩
        refine hK.out _ _ ?_ (fun hHeld => ?_)
        · (try dsimp only)
          obtain ⟨q0, q1, q2, q3⟩ := hHeld
          exact ⟨(hb.cell (p := ⟨W.heap.size, _, none⟩) (by show W.heap.size < v1.heap.size; omega)).trans q0, (hb.cell (p := ⟨W.heap.size, _, none⟩) (by show W.heap.size < v1.heap.size; omega)).trans q1, (hb.cell (p := ⟨W.heap.size, _, none⟩) (by show W.heap.size < v1.heap.size; omega)).trans q2, (hb.cell (p := ⟨W.heap.size, _, none⟩) (by show W.heap.size < v1.heap.size; omega)).trans q3⟩
        clear hK K
        (try simp only [Act.put, List.setIfInBounds_toArray, List.set_cons_zero, List.set_cons_succ])
        have H_bx_2 := Lib.hid (H_bx_1.out.call hb)
        have H_g6_2 := Lib.hid (H_g6_1.out.call hb)
        have HB_2 := Lib.hid (HB_1.out.trans (hb.mono HB_1.out.size))
        clear hb
        refine wpAnyH_ready (rs := [3]) (by kernel_rfl) (by simp) ?_
        refine (AllReadyH.cons (o := { dst := some 5, op := Go.Op.alloc 37, type := 0, pos := "law.go:44", after := #[], guard := none }) rfl (fun K hK => ?_) AllReadyH.nil)
        go_simp
        have l_bx := H_bx_2.out.1
        have l_g6 := H_g6_2.out.1
        have l_W := HB_2.out.size

        refine hK.out _ _ ?_ (fun hHeld => ?_)
        · (try dsimp only)
          obtain ⟨q0, q1, q2, q3⟩ := hHeld
          exact ⟨(World.cell?_alloc_lt _ _ _ (by show W.heap.size < v2.heap.size; omega)).trans q0, (World.cell?_alloc_lt _ _ _ (by show W.heap.size < v2.heap.size; omega)).trans q1, (World.cell?_alloc_lt _ _ _ (by show W.heap.size < v2.heap.size; omega)).trans q2, (World.cell?_alloc_lt _ _ _ (by show W.heap.size < v2.heap.size; omega)).trans q3⟩
        clear hK K
        (try simp only [Act.put, List.setIfInBounds_toArray, List.set_cons_zero, List.set_cons_succ])
        obtain ⟨g5, hgn⟩ : ∃ g', g' = v2.heap.size := ⟨_, rfl⟩
        obtain ⟨v3, hvn⟩ : ∃ w', w' = v2.alloc (.cells #[.float .f64 0, .float .f64 0, .float .f64 0, .int .u32 0] 37) := ⟨_, rfl⟩
        have H_bx_3 : Hid (GAt v3 W.heap.size lv mo x t) := by rw [hvn]; exact H_bx_2.out.alloc _
        have H_g6_3 : Hid (GAt v3 g6 0 0 0 0) := by rw [hvn]; exact H_g6_2.out.alloc _
        have H_g5_3 : Hid (GAt v3 g5 0 0 0 0) := by rw [hvn, hgn]; exact GAt.new
        have HB_3 : Hid (Below W.heap.size W v3) := by rw [hvn]; exact HB_2.out.alloc HB_2.out.size _
        have ne_g5_bx : W.heap.size < g5 := by rw [hgn]; omega
        have ne_g5_g6 : g6 < g5 := by rw [hgn]; omega
        rw [← hvn] at hHeld ⊢
        try rw [← hgn]
        clear hvn hgn
        have l_bx := H_bx_3.out.1
        have l_g6 := H_g6_3.out.1
        have l_g5 := H_g5_3.out.1
        have l_W := HB_3.out.size
        obtain ⟨_, p0, p1, p2, p3, pf⟩ := H_g5_3.out
        refine wpAnyH_ready (rs := [5]) (by kernel_rfl) (by simp) ?_
        refine (AllReadyH.cons (o := { dst := none, op := Go.Op.store 37 (Go.Operand.tmp 5) (Go.Operand.tmp 13), type := 0, pos := "law.go:44", after := #[{ on := 3, ground := Go.Ground.data }, { on := 1, ground := Go.Ground.data }, { on := 1, ground := Go.Ground.chain }, { on := 0, ground := Go.Ground.phase }, { on := 1, ground := Go.Ground.phase }, { on := 2, ground := Go.Ground.textOnly Go.Departure.lateStores }, { on := 3, ground := Go.Ground.phase }, { on := 4, ground := Go.Ground.phase }], guard := none }) rfl (fun K hK => ?_) AllReadyH.nil)
        go_simp

        refine hK.out _ _ ?_ (fun hHeld => ?_)
        · (try dsimp only)
          exact ⟨(H_bx_3.out.other (show W.heap.size ≠ g5 by omega) lv mo x t).2.1, (H_bx_3.out.other (show W.heap.size ≠ g5 by omega) lv mo x t).2.2.1, (H_bx_3.out.other (show W.heap.size ≠ g5 by omega) lv mo x t).2.2.2.1, (H_bx_3.out.other (show W.heap.size ≠ g5 by omega) lv mo x t).2.2.2.2.1⟩
        clear hK K
        (try simp only [Act.put, List.setIfInBounds_toArray, List.set_cons_zero, List.set_cons_succ])
        obtain ⟨v4, hvn⟩ : ∃ w', w' = setG v3 g5 lv mo x t := ⟨_, rfl⟩
        have H_bx_4 : Hid (GAt v4 W.heap.size lv mo x t) := by rw [hvn]; exact H_bx_3.out.other (by omega) _ _ _ _
        have H_g6_4 : Hid (GAt v4 g6 0 0 0 0) := by rw [hvn]; exact H_g6_3.out.other (by omega) _ _ _ _
        have H_g5_4 : Hid (GAt v4 g5 lv mo x t) := by rw [hvn]; exact H_g5_3.out.set _ _ _ _
        have HB_4 : Hid (Below W.heap.size W v4) := by rw [hvn]; exact setG_below HB_3.out (by omega) _ _ _ _
        unfold setG at hvn
        rw [← hvn] at hHeld ⊢
        clear hvn p0 p1 p2 p3 pf
        have l_bx := H_bx_4.out.1
        have l_g6 := H_g6_4.out.1
        have l_g5 := H_g5_4.out.1
        have l_W := HB_4.out.size
        obtain ⟨_, p0, p1, p2, p3, pf⟩ := H_g6_4.out
        refine wpAnyH_ready (rs := [6]) (by kernel_rfl) (by simp) ?_
        refine (AllReadyH.cons (o := { dst := none, op := Go.Op.store 35 (Go.Operand.tmp 6) (Go.Operand.tmp 14), type := 0, pos := "law.go:44", after := #[{ on := 4, ground := Go.Ground.data }, { on := 2, ground := Go.Ground.data }, { on := 5, ground := Go.Ground.chain }, { on := 0, ground := Go.Ground.phase }, { on := 1, ground := Go.Ground.phase }, { on := 2, ground := Go.Ground.phase }, { on := 3, ground := Go.Ground.phase }, { on := 4, ground := Go.Ground.phase }, { on := 5, ground := Go.Ground.phase }], guard := none }) rfl (fun K hK => ?_) AllReadyH.nil)
        go_simp

        refine hK.out _ _ ?_ (fun hHeld => ?_)
        · (try dsimp only)
          exact ⟨(H_bx_4.out.other (show W.heap.size ≠ g6 by omega) lv mo x t).2.1, (H_bx_4.out.other (show W.heap.size ≠ g6 by omega) lv mo x t).2.2.1, (H_bx_4.out.other (show W.heap.size ≠ g6 by omega) lv mo x t).2.2.2.1, (H_bx_4.out.other (show W.heap.size ≠ g6 by omega) lv mo x t).2.2.2.2.1⟩
        clear hK K
        (try simp only [Act.put, List.setIfInBounds_toArray, List.set_cons_zero, List.set_cons_succ])
        obtain ⟨v5, hvn⟩ : ∃ w', w' = setG v4 g6 lv mo x t := ⟨_, rfl⟩
        have H_bx_5 : Hid (GAt v5 W.heap.size lv mo x t) := by rw [hvn]; exact H_bx_4.out.other (by omega) _ _ _ _
        have H_g5_5 : Hid (GAt v5 g5 lv mo x t) := by rw [hvn]; exact H_g5_4.out.other (by omega) _ _ _ _
        have H_g6_5 : Hid (GAt v5 g6 lv mo x t) := by rw [hvn]; exact H_g6_4.out.set _ _ _ _
        have HB_5 : Hid (Below W.heap.size W v5) := by rw [hvn]; exact setG_below HB_4.out (by omega) _ _ _ _
        unfold setG at hvn
        rw [← hvn] at hHeld ⊢
        clear hvn p0 p1 p2 p3 pf
        refine wpAnyH_done (by kernel_rfl) ?_ _
        clear hHeld
        go_wp2_with fail
        go_meet
        exact ⟨g5, g6, rfl, rfl, by omega, by omega, by omega, H_bx_5, H_g5_5, H_g6_5, HB_5⟩
      · go_simp
        have l_bx := H_bx_1.out.1
        have l_g6 := H_g6_1.out.1
        have l_W := HB_1.out.size

        refine hK.out _ _ ?_ (fun hHeld => ?_)
        · (try dsimp only)
          obtain ⟨q0, q1, q2, q3⟩ := hHeld
          exact ⟨(World.cell?_alloc_lt _ _ _ (by show W.heap.size < v1.heap.size; omega)).trans q0, (World.cell?_alloc_lt _ _ _ (by show W.heap.size < v1.heap.size; omega)).trans q1, (World.cell?_alloc_lt _ _ _ (by show W.heap.size < v1.heap.size; omega)).trans q2, (World.cell?_alloc_lt _ _ _ (by show W.heap.size < v1.heap.size; omega)).trans q3⟩
        clear hK K
        (try simp only [Act.put, List.setIfInBounds_toArray, List.set_cons_zero, List.set_cons_succ])
        obtain ⟨g5, hgn⟩ : ∃ g', g' = v1.heap.size := ⟨_, rfl⟩
        obtain ⟨v2, hvn⟩ : ∃ w', w' = v1.alloc (.cells #[.float .f64 0, .float .f64 0, .float .f64 0, .int .u32 0] 37) := ⟨_, rfl⟩
        have H_bx_2 : Hid (GAt v2 W.heap.size lv mo x t) := by rw [hvn]; exact H_bx_1.out.alloc _
        have H_g6_2 : Hid (GAt v2 g6 0 0 0 0) := by rw [hvn]; exact H_g6_1.out.alloc _
        have H_g5_2 : Hid (GAt v2 g5 0 0 0 0) := by rw [hvn, hgn]; exact GAt.new
        have HB_2 : Hid (Below W.heap.size W v2) := by rw [hvn]; exact HB_1.out.alloc HB_1.out.size _
        have ne_g5_bx : W.heap.size < g5 := by rw [hgn]; omega
        have ne_g5_g6 : g6 < g5 := by rw [hgn]; omega
        rw [← hvn] at hHeld ⊢
        try rw [← hgn]
        clear hvn hgn
        refine wpAnyH_ready (rs := [1]) (by kernel_rfl) (by simp) ?_
        refine (AllReadyH.cons (o := { dst := some 13, op := Go.Op.call { callee := Go.Callee.value (Go.Operand.func 19), args := #[Go.Operand.tmp 12], argTypes := #[35] }, type := 37, pos := "law.go:44", after := #[{ on := 0, ground := Go.Ground.data }], guard := none }) rfl (fun K hK => ?_) AllReadyH.nil)
        go_simp
        have l_bx := H_bx_2.out.1
        have l_g6 := H_g6_2.out.1
        have l_g5 := H_g5_2.out.1
        have l_W := HB_2.out.size
        refine (HTO.out _).mono ?_
        rintro e v3 ⟨rfl, hb⟩
        refine hK.out _ _ ?_ (fun hHeld => ?_)
        · (try dsimp only)
          obtain ⟨q0, q1, q2, q3⟩ := hHeld
          exact ⟨(hb.cell (p := ⟨W.heap.size, _, none⟩) (by show W.heap.size < v2.heap.size; omega)).trans q0, (hb.cell (p := ⟨W.heap.size, _, none⟩) (by show W.heap.size < v2.heap.size; omega)).trans q1, (hb.cell (p := ⟨W.heap.size, _, none⟩) (by show W.heap.size < v2.heap.size; omega)).trans q2, (hb.cell (p := ⟨W.heap.size, _, none⟩) (by show W.heap.size < v2.heap.size; omega)).trans q3⟩
        clear hK K
        (try simp only [Act.put, List.setIfInBounds_toArray, List.set_cons_zero, List.set_cons_succ])
        have H_bx_3 := Lib.hid (H_bx_2.out.call hb)
        have H_g6_3 := Lib.hid (H_g6_2.out.call hb)
        have H_g5_3 := Lib.hid (H_g5_2.out.call hb)
        have HB_3 := Lib.hid (HB_2.out.trans (hb.mono HB_2.out.size))
        clear hb
        have l_bx := H_bx_3.out.1
        have l_g6 := H_g6_3.out.1
        have l_g5 := H_g5_3.out.1
        have l_W := HB_3.out.size
        obtain ⟨_, p0, p1, p2, p3, pf⟩ := H_g5_3.out
        refine wpAnyH_ready (rs := [5]) (by kernel_rfl) (by simp) ?_
        refine (AllReadyH.cons (o := { dst := none, op := Go.Op.store 37 (Go.Operand.tmp 5) (Go.Operand.tmp 13), type := 0, pos := "law.go:44", after := #[{ on := 3, ground := Go.Ground.data }, { on := 1, ground := Go.Ground.data }, { on := 1, ground := Go.Ground.chain }, { on := 0, ground := Go.Ground.phase }, { on := 1, ground := Go.Ground.phase }, { on := 2, ground := Go.Ground.textOnly Go.Departure.lateStores }, { on := 3, ground := Go.Ground.phase }, { on := 4, ground := Go.Ground.phase }], guard := none }) rfl (fun K hK => ?_) AllReadyH.nil)
        go_simp

        refine hK.out _ _ ?_ (fun hHeld => ?_)
        · (try dsimp only)
          exact ⟨(H_bx_3.out.other (show W.heap.size ≠ g5 by omega) lv mo x t).2.1, (H_bx_3.out.other (show W.heap.size ≠ g5 by omega) lv mo x t).2.2.1, (H_bx_3.out.other (show W.heap.size ≠ g5 by omega) lv mo x t).2.2.2.1, (H_bx_3.out.other (show W.heap.size ≠ g5 by omega) lv mo x t).2.2.2.2.1⟩
        clear hK K
        (try simp only [Act.put, List.setIfInBounds_toArray, List.set_cons_zero, List.set_cons_succ])
        obtain ⟨v4, hvn⟩ : ∃ w', w' = setG v3 g5 lv mo x t := ⟨_, rfl⟩
        have H_bx_4 : Hid (GAt v4 W.heap.size lv mo x t) := by rw [hvn]; exact H_bx_3.out.other (by omega) _ _ _ _
        have H_g6_4 : Hid (GAt v4 g6 0 0 0 0) := by rw [hvn]; exact H_g6_3.out.other (by omega) _ _ _ _
        have H_g5_4 : Hid (GAt v4 g5 lv mo x t) := by rw [hvn]; exact H_g5_3.out.set _ _ _ _
        have HB_4 : Hid (Below W.heap.size W v4) := by rw [hvn]; exact setG_below HB_3.out (by omega) _ _ _ _
        unfold setG at hvn
        rw [← hvn] at hHeld ⊢
        clear hvn p0 p1 p2 p3 pf
        have l_bx := H_bx_4.out.1
        have l_g6 := H_g6_4.out.1
        have l_g5 := H_g5_4.out.1
        have l_W := HB_4.out.size
        obtain ⟨_, p0, p1, p2, p3, pf⟩ := H_g6_4.out
        refine wpAnyH_ready (rs := [6]) (by kernel_rfl) (by simp) ?_
        refine (AllReadyH.cons (o := { dst := none, op := Go.Op.store 35 (Go.Operand.tmp 6) (Go.Operand.tmp 14), type := 0, pos := "law.go:44", after := #[{ on := 4, ground := Go.Ground.data }, { on := 2, ground := Go.Ground.data }, { on := 5, ground := Go.Ground.chain }, { on := 0, ground := Go.Ground.phase }, { on := 1, ground := Go.Ground.phase }, { on := 2, ground := Go.Ground.phase }, { on := 3, ground := Go.Ground.phase }, { on := 4, ground := Go.Ground.phase }, { on := 5, ground := Go.Ground.phase }], guard := none }) rfl (fun K hK => ?_) AllReadyH.nil)
        go_simp

        refine hK.out _ _ ?_ (fun hHeld => ?_)
        · (try dsimp only)
          exact ⟨(H_bx_4.out.other (show W.heap.size ≠ g6 by omega) lv mo x t).2.1, (H_bx_4.out.other (show W.heap.size ≠ g6 by omega) lv mo x t).2.2.1, (H_bx_4.out.other (show W.heap.size ≠ g6 by omega) lv mo x t).2.2.2.1, (H_bx_4.out.other (show W.heap.size ≠ g6 by omega) lv mo x t).2.2.2.2.1⟩
        clear hK K
        (try simp only [Act.put, List.setIfInBounds_toArray, List.set_cons_zero, List.set_cons_succ])
        obtain ⟨v5, hvn⟩ : ∃ w', w' = setG v4 g6 lv mo x t := ⟨_, rfl⟩
        have H_bx_5 : Hid (GAt v5 W.heap.size lv mo x t) := by rw [hvn]; exact H_bx_4.out.other (by omega) _ _ _ _
        have H_g5_5 : Hid (GAt v5 g5 lv mo x t) := by rw [hvn]; exact H_g5_4.out.other (by omega) _ _ _ _
        have H_g6_5 : Hid (GAt v5 g6 lv mo x t) := by rw [hvn]; exact H_g6_4.out.set _ _ _ _
        have HB_5 : Hid (Below W.heap.size W v5) := by rw [hvn]; exact setG_below HB_4.out (by omega) _ _ _ _
        unfold setG at hvn
        rw [← hvn] at hHeld ⊢
        clear hvn p0 p1 p2 p3 pf
        refine wpAnyH_done (by kernel_rfl) ?_ _
        clear hHeld
        go_wp2_with fail
        go_meet
        exact ⟨g5, g6, rfl, rfl, by omega, by omega, by omega, H_bx_5, H_g5_5, H_g6_5, HB_5⟩
  case rest =>
    obtain ⟨g5, g6, rfl, rfl, n56, n5w, n6w, H_bx, H_g5, H_g6, HB⟩ := hcut
    go_wp2_with fail
    have l_bx := H_bx.out.1
    have l_g5 := H_g5.out.1
    have l_g6 := H_g6.out.1
    have l_W := HB.out.size
    obtain ⟨_, s_bx_0, s_bx_1, s_bx_2, s_bx_3, _⟩ := H_bx.out
    obtain ⟨_, s_g5_0, s_g5_1, s_g5_2, s_g5_3, _⟩ := H_g5.out
    refine wp_region_held_drew (S := fun w' => w'.cell? ⟨W.heap.size, 0, none⟩ = some (.float .f64 lv) ∧ w'.cell? ⟨W.heap.size, 1, none⟩ = some (.float .f64 mo) ∧ w'.cell? ⟨W.heap.size, 2, none⟩ = some (.float .f64 x) ∧ w'.cell? ⟨W.heap.size, 3, none⟩ = some (.int .u32 (t : Int)) ∧ w'.cell? ⟨g5, 0, none⟩ = some (.float .f64 lv) ∧ w'.cell? ⟨g5, 1, none⟩ = some (.float .f64 mo) ∧ w'.cell? ⟨g5, 2, none⟩ = some (.float .f64 x) ∧ w'.cell? ⟨g5, 3, none⟩ = some (.int .u32 (t : Int))) (by kernel_rfl) ?_ (fun hHeld => ?_)
    · exact ⟨s_bx_0, s_bx_1, s_bx_2, s_bx_3, s_g5_0, s_g5_1, s_g5_2, s_g5_3⟩
    obtain ⟨v0, hv0⟩ : ∃ w', w' = wc.drew := ⟨_, rfl⟩
    have H_bx_0 : Hid (GAt v0 W.heap.size lv mo x t) := by rw [hv0]; exact H_bx.out
    have H_g5_0 : Hid (GAt v0 g5 lv mo x t) := by rw [hv0]; exact H_g5.out
    have H_g6_0 : Hid (GAt v0 g6 lv mo x t) := by rw [hv0]; exact H_g6.out
    have HB_0 : Hid (Below W.heap.size W v0) := by rw [hv0]; exact HB.out.drew
    rw [← hv0] at hHeld ⊢
    clear hv0 s_bx_0 s_bx_1 s_bx_2 s_bx_3 s_g5_0 s_g5_1 s_g5_2 s_g5_3
    refine wpAnyH_ready (rs := [0]) (by kernel_rfl) (by simp) ?_
    refine (AllReadyH.cons (o := { dst := some 15, op := Go.Op.call { callee := Go.Callee.value (Go.Operand.func 10), args := #[], argTypes := #[] }, type := 4, pos := "law.go:45", after := #[], guard := none }) rfl (fun K hK => ?_) AllReadyH.nil)
    go_simp
    have l_bx := H_bx_0.out.1
    have l_g5 := H_g5_0.out.1
    have l_g6 := H_g6_0.out.1
    have l_W := HB_0.out.size
    refine (HTOLD.out _).mono ?_
    rintro e v1 ⟨rfl, hb⟩
    refine hK.out _ _ ?_ (fun hHeld => ?_)
    · (try dsimp only)
      obtain ⟨q0, q1, q2, q3, q4, q5, q6, q7⟩ := hHeld
      exact ⟨(hb.cell (p := ⟨W.heap.size, _, none⟩) (by show W.heap.size < v0.heap.size; omega)).trans q0, (hb.cell (p := ⟨W.heap.size, _, none⟩) (by show W.heap.size < v0.heap.size; omega)).trans q1, (hb.cell (p := ⟨W.heap.size, _, none⟩) (by show W.heap.size < v0.heap.size; omega)).trans q2, (hb.cell (p := ⟨W.heap.size, _, none⟩) (by show W.heap.size < v0.heap.size; omega)).trans q3, (hb.cell (p := ⟨g5, _, none⟩) (by show g5 < v0.heap.size; omega)).trans q4, (hb.cell (p := ⟨g5, _, none⟩) (by show g5 < v0.heap.size; omega)).trans q5, (hb.cell (p := ⟨g5, _, none⟩) (by show g5 < v0.heap.size; omega)).trans q6, (hb.cell (p := ⟨g5, _, none⟩) (by show g5 < v0.heap.size; omega)).trans q7⟩
    clear hK K
    (try simp only [Act.put, List.setIfInBounds_toArray, List.set_cons_zero, List.set_cons_succ])
    have H_bx_1 := Lib.hid (H_bx_0.out.call hb)
    have H_g5_1 := Lib.hid (H_g5_0.out.call hb)
    have H_g6_1 := Lib.hid (H_g6_0.out.call hb)
    have HB_1 := Lib.hid (HB_0.out.trans (hb.mono HB_0.out.size))
    clear hb
    refine wpAnyH_take (i := 1) (oi := { dst := some 16, op := Go.Op.unOp Go.UnOp.not 4 (Go.Operand.tmp 15), type := 4, pos := "law.go:45", after := #[{ on := 0, ground := Go.Ground.data }], guard := none }) (v := ?_) rfl (by kernel_rfl) (by kernel_rfl) (by kernel_rfl) (fun _ _ _ h => h) (Or.inl ⟨by rfl, ?_⟩) (by assumption) ?_
    rotate_left
    · intro w hSw
      (try dsimp only at hSw)
      go_simp
      try with_reducible rfl
    (try simp only [Act.put, List.setIfInBounds_toArray, List.set_cons_zero, List.set_cons_succ])
    refine wpAnyH_take (i := 2) (oi := { dst := some 17, op := Go.Op.move (Go.Operand.tmp 16), type := 4, pos := "law.go:45", after := #[{ on := 1, ground := Go.Ground.data }, { on := 0, ground := Go.Ground.chain }], guard := none }) (v := ?_) rfl (by kernel_rfl) (by kernel_rfl) (by kernel_rfl) (fun _ _ _ h => h) (Or.inl ⟨by rfl, ?_⟩) (by assumption) ?_
    rotate_left
    · intro w hSw
      (try dsimp only at hSw)
      go_simp
      try with_reducible rfl
    (try simp only [Act.put, List.setIfInBounds_toArray, List.set_cons_zero, List.set_cons_succ])
    refine wpAnyH_take (i := 3) (oi := { dst := some 18, op := Go.Op.fieldAddr 35 (Go.Operand.tmp 2) 0, type := 0, pos := "law.go:45", after := #[{ on := 2, ground := Go.Ground.guard }], guard := some (2, false) }) (v := ?_) rfl (by kernel_rfl) (by kernel_rfl) (by kernel_rfl) (fun _ _ _ h => h) (Or.inl ⟨by rfl, ?_⟩) (by assumption) ?_
    rotate_left
    · intro w hSw
      (try dsimp only at hSw)
      go_simp
      try with_reducible rfl
    (try simp only [Act.put, List.setIfInBounds_toArray, List.set_cons_zero, List.set_cons_succ])
    refine wpAnyH_take (i := 4) (oi := { dst := some 19, op := Go.Op.load 22 (Go.Operand.tmp 18), type := 22, pos := "law.go:45", after := #[{ on := 3, ground := Go.Ground.data }, { on := 2, ground := Go.Ground.guard }], guard := some (2, false) }) (v := ?_) rfl (by kernel_rfl) (by kernel_rfl) (by kernel_rfl) (fun _ _ _ h => h) (Or.inl ⟨by rfl, ?_⟩) (by assumption) ?_
    rotate_left
    · intro w hSw
      (try dsimp only at hSw)
      go_simp
      try with_reducible rfl
    (try simp only [Act.put, List.setIfInBounds_toArray, List.set_cons_zero, List.set_cons_succ])
    refine wpAnyH_take (i := 5) (oi := { dst := some 20, op := Go.Op.fieldAddr 35 (Go.Operand.tmp 2) 1, type := 0, pos := "law.go:45", after := #[{ on := 2, ground := Go.Ground.guard }], guard := some (2, false) }) (v := ?_) rfl (by kernel_rfl) (by kernel_rfl) (by kernel_rfl) (fun _ _ _ h => h) (Or.inl ⟨by rfl, ?_⟩) (by assumption) ?_
    rotate_left
    · intro w hSw
      (try dsimp only at hSw)
      go_simp
      try with_reducible rfl
    (try simp only [Act.put, List.setIfInBounds_toArray, List.set_cons_zero, List.set_cons_succ])
    refine wpAnyH_take (i := 6) (oi := { dst := some 21, op := Go.Op.load 22 (Go.Operand.tmp 20), type := 22, pos := "law.go:45", after := #[{ on := 5, ground := Go.Ground.data }, { on := 2, ground := Go.Ground.guard }], guard := some (2, false) }) (v := ?_) rfl (by kernel_rfl) (by kernel_rfl) (by kernel_rfl) (fun _ _ _ h => h) (Or.inl ⟨by rfl, ?_⟩) (by assumption) ?_
    rotate_left
    · intro w hSw
      (try dsimp only at hSw)
      go_simp
      try with_reducible rfl
    (try simp only [Act.put, List.setIfInBounds_toArray, List.set_cons_zero, List.set_cons_succ])
    refine wpAnyH_take (i := 7) (oi := { dst := some 22, op := Go.Op.fieldAddr 35 (Go.Operand.tmp 2) 3, type := 0, pos := "law.go:45", after := #[{ on := 2, ground := Go.Ground.guard }], guard := some (2, false) }) (v := ?_) rfl (by kernel_rfl) (by kernel_rfl) (by kernel_rfl) (fun _ _ _ h => h) (Or.inl ⟨by rfl, ?_⟩) (by assumption) ?_
    rotate_left
    · intro w hSw
      (try dsimp only at hSw)
      go_simp
      try with_reducible rfl
    (try simp only [Act.put, List.setIfInBounds_toArray, List.set_cons_zero, List.set_cons_succ])
    refine wpAnyH_take (i := 8) (oi := { dst := some 23, op := Go.Op.load 33 (Go.Operand.tmp 22), type := 33, pos := "law.go:45", after := #[{ on := 7, ground := Go.Ground.data }, { on := 2, ground := Go.Ground.guard }], guard := some (2, false) }) (v := ?_) rfl (by kernel_rfl) (by kernel_rfl) (by kernel_rfl) (fun _ _ _ h => h) (Or.inl ⟨by rfl, ?_⟩) (by assumption) ?_
    rotate_left
    · intro w hSw
      (try dsimp only at hSw)
      go_simp
      try with_reducible rfl
    (try simp only [Act.put, List.setIfInBounds_toArray, List.set_cons_zero, List.set_cons_succ])
    refine wpAnyH_take (i := 11) (oi := { dst := some 26, op := Go.Op.fieldAddr 35 (Go.Operand.tmp 2) 0, type := 0, pos := "law.go:45", after := #[{ on := 2, ground := Go.Ground.guard }], guard := some (2, false) }) (v := ?_) rfl (by kernel_rfl) (by kernel_rfl) (by kernel_rfl) (fun _ _ _ h => h) (Or.inl ⟨by rfl, ?_⟩) (by assumption) ?_
    rotate_left
    · intro w hSw
      (try dsimp only at hSw)
      go_simp
      try with_reducible rfl
    (try simp only [Act.put, List.setIfInBounds_toArray, List.set_cons_zero, List.set_cons_succ])
    refine wpAnyH_take (i := 12) (oi := { dst := some 27, op := Go.Op.load 22 (Go.Operand.tmp 26), type := 22, pos := "law.go:45", after := #[{ on := 11, ground := Go.Ground.data }, { on := 2, ground := Go.Ground.guard }], guard := some (2, false) }) (v := ?_) rfl (by kernel_rfl) (by kernel_rfl) (by kernel_rfl) (fun _ _ _ h => h) (Or.inl ⟨by rfl, ?_⟩) (by assumption) ?_
    rotate_left
    · intro w hSw
      (try dsimp only at hSw)
      go_simp
      try with_reducible rfl
    (try simp only [Act.put, List.setIfInBounds_toArray, List.set_cons_zero, List.set_cons_succ])
    refine wpAnyH_take (i := 13) (oi := { dst := some 28, op := Go.Op.fieldAddr 35 (Go.Operand.tmp 2) 1, type := 0, pos := "law.go:45", after := #[{ on := 2, ground := Go.Ground.guard }], guard := some (2, false) }) (v := ?_) rfl (by kernel_rfl) (by kernel_rfl) (by kernel_rfl) (fun _ _ _ h => h) (Or.inl ⟨by rfl, ?_⟩) (by assumption) ?_
    rotate_left
    · intro w hSw
      (try dsimp only at hSw)
      go_simp
      try with_reducible rfl
    (try simp only [Act.put, List.setIfInBounds_toArray, List.set_cons_zero, List.set_cons_succ])
    refine wpAnyH_take (i := 14) (oi := { dst := some 29, op := Go.Op.load 22 (Go.Operand.tmp 28), type := 22, pos := "law.go:45", after := #[{ on := 13, ground := Go.Ground.data }, { on := 2, ground := Go.Ground.guard }], guard := some (2, false) }) (v := ?_) rfl (by kernel_rfl) (by kernel_rfl) (by kernel_rfl) (fun _ _ _ h => h) (Or.inl ⟨by rfl, ?_⟩) (by assumption) ?_
    rotate_left
    · intro w hSw
      (try dsimp only at hSw)
      go_simp
      try with_reducible rfl
    (try simp only [Act.put, List.setIfInBounds_toArray, List.set_cons_zero, List.set_cons_succ])
    refine wpAnyH_take (i := 15) (oi := { dst := some 30, op := Go.Op.fieldAddr 35 (Go.Operand.tmp 2) 1, type := 0, pos := "law.go:45", after := #[{ on := 2, ground := Go.Ground.guard }], guard := some (2, false) }) (v := ?_) rfl (by kernel_rfl) (by kernel_rfl) (by kernel_rfl) (fun _ _ _ h => h) (Or.inl ⟨by rfl, ?_⟩) (by assumption) ?_
    rotate_left
    · intro w hSw
      (try dsimp only at hSw)
      go_simp
      try with_reducible rfl
    (try simp only [Act.put, List.setIfInBounds_toArray, List.set_cons_zero, List.set_cons_succ])
    refine wpAnyH_take (i := 16) (oi := { dst := some 31, op := Go.Op.load 22 (Go.Operand.tmp 30), type := 22, pos := "law.go:45", after := #[{ on := 15, ground := Go.Ground.data }, { on := 2, ground := Go.Ground.guard }], guard := some (2, false) }) (v := ?_) rfl (by kernel_rfl) (by kernel_rfl) (by kernel_rfl) (fun _ _ _ h => h) (Or.inl ⟨by rfl, ?_⟩) (by assumption) ?_
    rotate_left
    · intro w hSw
      (try dsimp only at hSw)
      go_simp
      try with_reducible rfl
    (try simp only [Act.put, List.setIfInBounds_toArray, List.set_cons_zero, List.set_cons_succ])
    refine wpAnyH_take (i := 17) (oi := { dst := some 32, op := Go.Op.fieldAddr 35 (Go.Operand.tmp 2) 3, type := 0, pos := "law.go:45", after := #[{ on := 2, ground := Go.Ground.guard }], guard := some (2, false) }) (v := ?_) rfl (by kernel_rfl) (by kernel_rfl) (by kernel_rfl) (fun _ _ _ h => h) (Or.inl ⟨by rfl, ?_⟩) (by assumption) ?_
    rotate_left
    · intro w hSw
      (try dsimp only at hSw)
      go_simp
      try with_reducible rfl
    (try simp only [Act.put, List.setIfInBounds_toArray, List.set_cons_zero, List.set_cons_succ])
    refine wpAnyH_take (i := 18) (oi := { dst := some 33, op := Go.Op.load 33 (Go.Operand.tmp 32), type := 33, pos := "law.go:45", after := #[{ on := 17, ground := Go.Ground.data }, { on := 2, ground := Go.Ground.guard }], guard := some (2, false) }) (v := ?_) rfl (by kernel_rfl) (by kernel_rfl) (by kernel_rfl) (fun _ _ _ h => h) (Or.inl ⟨by rfl, ?_⟩) (by assumption) ?_
    rotate_left
    · intro w hSw
      (try dsimp only at hSw)
      go_simp
      try with_reducible rfl
    (try simp only [Act.put, List.setIfInBounds_toArray, List.set_cons_zero, List.set_cons_succ])
    refine wpAnyH_take (i := 19) (oi := { dst := some 34, op := Go.Op.build 35 #[(0, Go.Operand.tmp 27), (1, Go.Operand.tmp 29), (2, Go.Operand.tmp 31), (3, Go.Operand.tmp 33)], type := 35, pos := "law.go:45", after := #[{ on := 12, ground := Go.Ground.data }, { on := 14, ground := Go.Ground.data }, { on := 16, ground := Go.Ground.data }, { on := 18, ground := Go.Ground.data }, { on := 2, ground := Go.Ground.guard }], guard := some (2, false) }) (v := ?_) rfl (by kernel_rfl) (by kernel_rfl) (by kernel_rfl) (fun _ _ _ h => h) (Or.inl ⟨by rfl, ?_⟩) (by assumption) ?_
    rotate_left
    · intro w hSw
      (try dsimp only at hSw)
      go_simp
      try with_reducible rfl
    (try simp only [Act.put, List.setIfInBounds_toArray, List.set_cons_zero, List.set_cons_succ])
    refine wpAnyH_ready (rs := [9]) (by kernel_rfl) (by simp) ?_
    refine (AllReadyH.cons (o := { dst := some 24, op := Go.Op.call { callee := Go.Callee.value (Go.Operand.func 22), args := #[Go.Operand.tmp 19, Go.Operand.tmp 21, Go.Operand.tmp 23], argTypes := #[22, 22, 33] }, type := 37, pos := "law.go:45", after := #[{ on := 4, ground := Go.Ground.data }, { on := 6, ground := Go.Ground.data }, { on := 8, ground := Go.Ground.data }, { on := 2, ground := Go.Ground.chain }, { on := 2, ground := Go.Ground.guard }], guard := some (2, false) }) rfl (fun K hK => ?_) AllReadyH.nil)
    go_simp
    have l_bx := H_bx_1.out.1
    have l_g5 := H_g5_1.out.1
    have l_g6 := H_g6_1.out.1
    have l_W := HB_1.out.size
    refine (HNEW.out _).mono ?_
    rintro e v2 ⟨rfl, hb⟩
    refine hK.out _ _ ?_ (fun hHeld => ?_)
    · (try dsimp only)
      obtain ⟨q0, q1, q2, q3, q4, q5, q6, q7⟩ := hHeld
      exact ⟨(hb.cell (p := ⟨W.heap.size, _, none⟩) (by show W.heap.size < v1.heap.size; omega)).trans q0, (hb.cell (p := ⟨W.heap.size, _, none⟩) (by show W.heap.size < v1.heap.size; omega)).trans q1, (hb.cell (p := ⟨W.heap.size, _, none⟩) (by show W.heap.size < v1.heap.size; omega)).trans q2, (hb.cell (p := ⟨W.heap.size, _, none⟩) (by show W.heap.size < v1.heap.size; omega)).trans q3, (hb.cell (p := ⟨g5, _, none⟩) (by show g5 < v1.heap.size; omega)).trans q4, (hb.cell (p := ⟨g5, _, none⟩) (by show g5 < v1.heap.size; omega)).trans q5, (hb.cell (p := ⟨g5, _, none⟩) (by show g5 < v1.heap.size; omega)).trans q6, (hb.cell (p := ⟨g5, _, none⟩) (by show g5 < v1.heap.size; omega)).trans q7⟩
    clear hK K
    (try simp only [Act.put, List.setIfInBounds_toArray, List.set_cons_zero, List.set_cons_succ])
    have H_bx_2 := Lib.hid (H_bx_1.out.call hb)
    have H_g5_2 := Lib.hid (H_g5_1.out.call hb)
    have H_g6_2 := Lib.hid (H_g6_1.out.call hb)
    have HB_2 := Lib.hid (HB_1.out.trans (hb.mono HB_1.out.size))
    clear hb
    refine wpAnyH_ready (rs := [10]) (by kernel_rfl) (by simp) ?_
    refine (AllReadyH.cons (o := { dst := some 25, op := Go.Op.call { callee := Go.Callee.value (Go.Operand.func 21), args := #[Go.Operand.tmp 24], argTypes := #[37] }, type := 35, pos := "law.go:45", after := #[{ on := 9, ground := Go.Ground.data }, { on := 9, ground := Go.Ground.chain }, { on := 2, ground := Go.Ground.guard }], guard := some (2, false) }) rfl (fun K hK => ?_) AllReadyH.nil)
    go_simp
    have l_bx := H_bx_2.out.1
    have l_g5 := H_g5_2.out.1
    have l_g6 := H_g6_2.out.1
    have l_W := HB_2.out.size
    refine (HFR.out mo t _).mono ?_
    rintro e v3 ⟨rfl, hb⟩
    refine hK.out _ _ ?_ (fun hHeld => ?_)
    · (try dsimp only)
      obtain ⟨q0, q1, q2, q3, q4, q5, q6, q7⟩ := hHeld
      exact ⟨(hb.cell (p := ⟨W.heap.size, _, none⟩) (by show W.heap.size < v2.heap.size; omega)).trans q0, (hb.cell (p := ⟨W.heap.size, _, none⟩) (by show W.heap.size < v2.heap.size; omega)).trans q1, (hb.cell (p := ⟨W.heap.size, _, none⟩) (by show W.heap.size < v2.heap.size; omega)).trans q2, (hb.cell (p := ⟨W.heap.size, _, none⟩) (by show W.heap.size < v2.heap.size; omega)).trans q3, (hb.cell (p := ⟨g5, _, none⟩) (by show g5 < v2.heap.size; omega)).trans q4, (hb.cell (p := ⟨g5, _, none⟩) (by show g5 < v2.heap.size; omega)).trans q5, (hb.cell (p := ⟨g5, _, none⟩) (by show g5 < v2.heap.size; omega)).trans q6, (hb.cell (p := ⟨g5, _, none⟩) (by show g5 < v2.heap.size; omega)).trans q7⟩
    clear hK K
    (try simp only [Act.put, List.setIfInBounds_toArray, List.set_cons_zero, List.set_cons_succ])
    have H_bx_3 := Lib.hid (H_bx_2.out.call hb)
    have H_g5_3 := Lib.hid (H_g5_2.out.call hb)
    have H_g6_3 := Lib.hid (H_g6_2.out.call hb)
    have HB_3 := Lib.hid (HB_2.out.trans (hb.mono HB_2.out.size))
    clear hb
    refine wpAnyH_ready (rs := [20]) (by kernel_rfl) (by simp) ?_
    refine (AllReadyH.cons (o := { dst := some 35, op := Go.Op.call { callee := Go.Callee.value (Go.Operand.func 20), args := #[Go.Operand.tmp 25, Go.Operand.tmp 34], argTypes := #[35, 35] }, type := 4, pos := "law.go:45", after := #[{ on := 10, ground := Go.Ground.data }, { on := 19, ground := Go.Ground.data }, { on := 10, ground := Go.Ground.chain }, { on := 2, ground := Go.Ground.guard }], guard := some (2, false) }) rfl (fun K hK => ?_) AllReadyH.nil)
    go_simp
    have l_bx := H_bx_3.out.1
    have l_g5 := H_g5_3.out.1
    have l_g6 := H_g6_3.out.1
    have l_W := HB_3.out.size
    refine (HEQ.out mo t HMO.out _).mono ?_
    rintro e v4 ⟨rfl, hb⟩
    refine hK.out _ _ ?_ (fun hHeld => ?_)
    · (try dsimp only)
      obtain ⟨q0, q1, q2, q3, q4, q5, q6, q7⟩ := hHeld
      exact ⟨(hb.cell (p := ⟨W.heap.size, _, none⟩) (by show W.heap.size < v3.heap.size; omega)).trans q0, (hb.cell (p := ⟨W.heap.size, _, none⟩) (by show W.heap.size < v3.heap.size; omega)).trans q1, (hb.cell (p := ⟨W.heap.size, _, none⟩) (by show W.heap.size < v3.heap.size; omega)).trans q2, (hb.cell (p := ⟨W.heap.size, _, none⟩) (by show W.heap.size < v3.heap.size; omega)).trans q3, (hb.cell (p := ⟨g5, _, none⟩) (by show g5 < v3.heap.size; omega)).trans q4, (hb.cell (p := ⟨g5, _, none⟩) (by show g5 < v3.heap.size; omega)).trans q5, (hb.cell (p := ⟨g5, _, none⟩) (by show g5 < v3.heap.size; omega)).trans q6, (hb.cell (p := ⟨g5, _, none⟩) (by show g5 < v3.heap.size; omega)).trans q7⟩
    clear hK K
    (try simp only [Act.put, List.setIfInBounds_toArray, List.set_cons_zero, List.set_cons_succ])
    have H_bx_4 := Lib.hid (H_bx_3.out.call hb)
    have H_g5_4 := Lib.hid (H_g5_3.out.call hb)
    have H_g6_4 := Lib.hid (H_g6_3.out.call hb)
    have HB_4 := Lib.hid (HB_3.out.trans (hb.mono HB_3.out.size))
    clear hb
    refine wpAnyH_take (i := 21) (oi := { dst := some 36, op := Go.Op.unOp Go.UnOp.not 4 (Go.Operand.tmp 35), type := 4, pos := "law.go:45", after := #[{ on := 20, ground := Go.Ground.data }, { on := 2, ground := Go.Ground.guard }], guard := some (2, false) }) (v := ?_) rfl (by kernel_rfl) (by kernel_rfl) (by kernel_rfl) (fun _ _ _ h => h) (Or.inl ⟨by rfl, ?_⟩) (by assumption) ?_
    rotate_left
    · intro w hSw
      (try dsimp only at hSw)
      go_simp
      try with_reducible rfl
    (try simp only [Act.put, List.setIfInBounds_toArray, List.set_cons_zero, List.set_cons_succ])
    refine wpAnyH_take (i := 22) (oi := { dst := some 37, op := Go.Op.pick (Go.Operand.tmp 17) (Go.Operand.const (Go.Value.bool true)) (Go.Operand.tmp 36), type := 4, pos := "law.go:45", after := #[{ on := 2, ground := Go.Ground.data }, { on := 21, ground := Go.Ground.data }], guard := none }) (v := ?_) rfl (by kernel_rfl) (by kernel_rfl) (by kernel_rfl) (fun _ _ _ h => h) (Or.inl ⟨by rfl, ?_⟩) (by assumption) ?_
    rotate_left
    · intro w hSw
      (try dsimp only at hSw)
      go_simp
      try with_reducible rfl
    (try simp only [Act.put, List.setIfInBounds_toArray, List.set_cons_zero, List.set_cons_succ])
    refine wpAnyH_take (i := 23) (oi := { dst := some 38, op := Go.Op.move (Go.Operand.tmp 37), type := 4, pos := "law.go:45", after := #[{ on := 22, ground := Go.Ground.data }, { on := 20, ground := Go.Ground.chain }], guard := none }) (v := ?_) rfl (by kernel_rfl) (by kernel_rfl) (by kernel_rfl) (fun _ _ _ h => h) (Or.inl ⟨by rfl, ?_⟩) (by assumption) ?_
    rotate_left
    · intro w hSw
      (try dsimp only at hSw)
      go_simp
      try with_reducible rfl
    (try simp only [Act.put, List.setIfInBounds_toArray, List.set_cons_zero, List.set_cons_succ])
    refine wpAnyH_take (i := 24) (oi := { dst := some 39, op := Go.Op.load 37 (Go.Operand.tmp 5), type := 37, pos := "law.go:45", after := #[{ on := 23, ground := Go.Ground.guard }], guard := some (23, false) }) (v := ?_) rfl (by kernel_rfl) (by kernel_rfl) (by kernel_rfl) (fun _ _ _ h => h) (Or.inl ⟨by rfl, ?_⟩) (by assumption) ?_
    rotate_left
    · intro w hSw
      (try dsimp only at hSw)
      go_simp
      try with_reducible rfl
    (try simp only [Act.put, List.setIfInBounds_toArray, List.set_cons_zero, List.set_cons_succ])
    refine wpAnyH_take (i := 26) (oi := { dst := some 41, op := Go.Op.load 35 (Go.Operand.tmp 2), type := 35, pos := "law.go:45", after := #[{ on := 23, ground := Go.Ground.guard }], guard := some (23, false) }) (v := ?_) rfl (by kernel_rfl) (by kernel_rfl) (by kernel_rfl) (fun _ _ _ h => h) (Or.inl ⟨by rfl, ?_⟩) (by assumption) ?_
    rotate_left
    · intro w hSw
      (try dsimp only at hSw)
      go_simp
      try with_reducible rfl
    (try simp only [Act.put, List.setIfInBounds_toArray, List.set_cons_zero, List.set_cons_succ])
    refine wpAnyH_ready (rs := [25]) (by kernel_rfl) (by simp) ?_
    refine (AllReadyH.cons (o := { dst := some 40, op := Go.Op.call { callee := Go.Callee.value (Go.Operand.func 23), args := #[Go.Operand.tmp 39], argTypes := #[37] }, type := 4, pos := "law.go:45", after := #[{ on := 24, ground := Go.Ground.data }, { on := 23, ground := Go.Ground.chain }, { on := 23, ground := Go.Ground.guard }], guard := some (23, false) }) rfl (fun K hK => ?_) AllReadyH.nil)
    go_simp
    have l_bx := H_bx_4.out.1
    have l_g5 := H_g5_4.out.1
    have l_g6 := H_g6_4.out.1
    have l_W := HB_4.out.size
    refine (HOP1.out _).mono ?_
    rintro e v5 ⟨rfl, hb⟩
    refine hK.out _ _ ?_ (fun hHeld => ?_)
    · (try dsimp only)
      obtain ⟨q0, q1, q2, q3, q4, q5, q6, q7⟩ := hHeld
      exact ⟨(hb.cell (p := ⟨W.heap.size, _, none⟩) (by show W.heap.size < v4.heap.size; omega)).trans q0, (hb.cell (p := ⟨W.heap.size, _, none⟩) (by show W.heap.size < v4.heap.size; omega)).trans q1, (hb.cell (p := ⟨W.heap.size, _, none⟩) (by show W.heap.size < v4.heap.size; omega)).trans q2, (hb.cell (p := ⟨W.heap.size, _, none⟩) (by show W.heap.size < v4.heap.size; omega)).trans q3, (hb.cell (p := ⟨g5, _, none⟩) (by show g5 < v4.heap.size; omega)).trans q4, (hb.cell (p := ⟨g5, _, none⟩) (by show g5 < v4.heap.size; omega)).trans q5, (hb.cell (p := ⟨g5, _, none⟩) (by show g5 < v4.heap.size; omega)).trans q6, (hb.cell (p := ⟨g5, _, none⟩) (by show g5 < v4.heap.size; omega)).trans q7⟩
    clear hK K
    (try simp only [Act.put, List.setIfInBounds_toArray, List.set_cons_zero, List.set_cons_succ])
    have H_bx_5 := Lib.hid (H_bx_4.out.call hb)
    have H_g5_5 := Lib.hid (H_g5_4.out.call hb)
    have H_g6_5 := Lib.hid (H_g6_4.out.call hb)
    have HB_5 := Lib.hid (HB_4.out.trans (hb.mono HB_4.out.size))
    clear hb
    refine wpAnyH_ready (rs := [27]) (by kernel_rfl) (by simp) ?_
    refine (AllReadyH.cons (o := { dst := some 42, op := Go.Op.call { callee := Go.Callee.value (Go.Operand.func 24), args := #[Go.Operand.tmp 41], argTypes := #[35] }, type := 4, pos := "law.go:45", after := #[{ on := 26, ground := Go.Ground.data }, { on := 25, ground := Go.Ground.chain }, { on := 23, ground := Go.Ground.guard }], guard := some (23, false) }) rfl (fun K hK => ?_) AllReadyH.nil)
    go_simp
    have l_bx := H_bx_5.out.1
    have l_g5 := H_g5_5.out.1
    have l_g6 := H_g6_5.out.1
    have l_W := HB_5.out.size
    refine (HOP2.out _).mono ?_
    rintro e v6 ⟨rfl, hb⟩
    refine hK.out _ _ ?_ (fun hHeld => ?_)
    · (try dsimp only)
      obtain ⟨q0, q1, q2, q3, q4, q5, q6, q7⟩ := hHeld
      exact ⟨(hb.cell (p := ⟨W.heap.size, _, none⟩) (by show W.heap.size < v5.heap.size; omega)).trans q0, (hb.cell (p := ⟨W.heap.size, _, none⟩) (by show W.heap.size < v5.heap.size; omega)).trans q1, (hb.cell (p := ⟨W.heap.size, _, none⟩) (by show W.heap.size < v5.heap.size; omega)).trans q2, (hb.cell (p := ⟨W.heap.size, _, none⟩) (by show W.heap.size < v5.heap.size; omega)).trans q3, (hb.cell (p := ⟨g5, _, none⟩) (by show g5 < v5.heap.size; omega)).trans q4, (hb.cell (p := ⟨g5, _, none⟩) (by show g5 < v5.heap.size; omega)).trans q5, (hb.cell (p := ⟨g5, _, none⟩) (by show g5 < v5.heap.size; omega)).trans q6, (hb.cell (p := ⟨g5, _, none⟩) (by show g5 < v5.heap.size; omega)).trans q7⟩
    clear hK K
    (try simp only [Act.put, List.setIfInBounds_toArray, List.set_cons_zero, List.set_cons_succ])
    have H_bx_6 := Lib.hid (H_bx_5.out.call hb)
    have H_g5_6 := Lib.hid (H_g5_5.out.call hb)
    have H_g6_6 := Lib.hid (H_g6_5.out.call hb)
    have HB_6 := Lib.hid (HB_5.out.trans (hb.mono HB_5.out.size))
    clear hb
    refine wpAnyH_take (i := 28) (oi := { dst := some 43, op := Go.Op.binOp Go.BinOp.neq 4 (Go.Operand.tmp 40) (Go.Operand.tmp 42) 4, type := 4, pos := "law.go:45", after := #[{ on := 25, ground := Go.Ground.data }, { on := 27, ground := Go.Ground.data }, { on := 23, ground := Go.Ground.guard }], guard := some (23, false) }) (v := ?_) rfl (by kernel_rfl) (by kernel_rfl) (by kernel_rfl) (fun _ _ _ h => h) (Or.inl ⟨by rfl, ?_⟩) (by assumption) ?_
    rotate_left
    · intro w hSw
      (try dsimp only at hSw)
      go_simp
      try with_reducible rfl
    (try simp only [Act.put, List.setIfInBounds_toArray, List.set_cons_zero, List.set_cons_succ])
    refine wpAnyH_take (i := 29) (oi := { dst := some 44, op := Go.Op.pick (Go.Operand.tmp 38) (Go.Operand.const (Go.Value.bool true)) (Go.Operand.tmp 43), type := 4, pos := "law.go:45", after := #[{ on := 23, ground := Go.Ground.data }, { on := 28, ground := Go.Ground.data }], guard := none }) (v := ?_) rfl (by kernel_rfl) (by kernel_rfl) (by kernel_rfl) (fun _ _ _ h => h) (Or.inl ⟨by rfl, ?_⟩) (by assumption) ?_
    rotate_left
    · intro w hSw
      (try dsimp only at hSw)
      go_simp
      try with_reducible rfl
    (try simp only [Act.put, List.setIfInBounds_toArray, List.set_cons_zero, List.set_cons_succ])
    refine wpAnyH_done (by kernel_rfl) ?_ _
    clear hHeld
    have H_bx := H_bx_6
    have H_g5 := H_g5_6
    have H_g6 := H_g6_6
    have HB := HB_6
    clear H_bx_0 H_g5_0 H_g6_0 HB_0
    clear H_bx_1 H_g5_1 H_g6_1 HB_1
    clear H_bx_2 H_g5_2 H_g6_2 HB_2
    clear H_bx_3 H_g5_3 H_g6_3 HB_3
    clear H_bx_4 H_g5_4 H_g6_4 HB_4
    clear H_bx_5 H_g5_5 H_g6_5 HB_5
    clear H_bx_6 H_g5_6 H_g6_6 HB_6
    go_wp2
    go_loopw [7] (fun i wr => ∃ k y u : Nat, k ≤ K ∧ i = .int .i64 k ∧ y < 18446744073709551616 ∧ u < 4294967296 ∧ Hid (GAt wr g5 lv mo y u) ∧ Hid (GAt wr g6 lv mo y u) ∧ Hid (Below W.heap.size W wr)) (fun i _ => K - (intOf i).toNat)
    case atStart => exact ⟨0, x, t, by omega, rfl, HX0.out, HT0.out, H_g5, H_g6, HB⟩
    case round =>
      obtain ⟨k, y, u, hk, rfl, hy, hu, H_g5, H_g6, HB⟩ := hrel
      by_cases hlt : k < K
      · obtain ⟨b, off, rfl, hb0, hcell⟩ := HTK.out (by omega)
        have hWw := HB.out.size
        obtain ⟨T, hT⟩ : ∃ T, T = l1.getD k 0 := ⟨_, rfl⟩
        have HTL : Hid (T < 4294967296) := by rw [hT]; exact HL2.out k
        have HT : Hid (wr.cell? ⟨b, off + k, none⟩ = some (.int .u32 (T : Int))) := by rw [hT]; exact (HB.out.cell (p := ⟨b, off + k, none⟩) (by show b < _; omega)).trans (hcell k (by omega))
        clear hT hcell
        have e0 : (0 : Int) ≤ (k : Int) := Int.natCast_nonneg _
        have e1 : (k : Int) < (n : Int) := by omega
        have e2 : (k : Int) < 200 := by omega
        obtain ⟨f, q, ok, hf, hq, hf1, hf2, ht1, ht2⟩ := HSTEP.out y u T hy hu HTL.out
        have HF1 := Lib.hid hf1
        have HF2 := Lib.hid hf2
        have HK1 := Lib.hid ht1
        have HK2 := Lib.hid ht2
        have HQ := Lib.hid hq
        have HE1 := Lib.hid fun w => HEQ.out f T hf w
        have HE2 := Lib.hid fun w => HEQ.out q T hq w
        have hok : (ok != ok) = false := by cases ok <;> rfl
        clear hf1 hf2 ht1 ht2 hf hq HSTEP HTK HL2 hWw
        go_wp2_with fail
        have l_g5 := H_g5.out.1
        have l_g6 := H_g6.out.1
        have l_W := HB.out.size
        obtain ⟨_, s_g5_0, s_g5_1, s_g5_2, s_g5_3, _⟩ := H_g5.out
        obtain ⟨_, s_g6_0, s_g6_1, s_g6_2, s_g6_3, _⟩ := H_g6.out
        have s_T := HT.out
        refine wp_region_held_drew (S := fun w' => w'.cell? ⟨g5, 0, none⟩ = some (.float .f64 lv) ∧ w'.cell? ⟨g5, 1, none⟩ = some (.float .f64 mo) ∧ w'.cell? ⟨g5, 2, none⟩ = some (.float .f64 y) ∧ w'.cell? ⟨g5, 3, none⟩ = some (.int .u32 (u : Int)) ∧ w'.cell? ⟨g6, 0, none⟩ = some (.float .f64 lv) ∧ w'.cell? ⟨g6, 1, none⟩ = some (.float .f64 mo) ∧ w'.cell? ⟨g6, 2, none⟩ = some (.float .f64 y) ∧ w'.cell? ⟨g6, 3, none⟩ = some (.int .u32 (u : Int)) ∧ w'.cell? ⟨b, off + k, none⟩ = some (.int .u32 (T : Int))) (by kernel_rfl) ?_ (fun hHeld => ?_)
        · exact ⟨s_g5_0, s_g5_1, s_g5_2, s_g5_3, s_g6_0, s_g6_1, s_g6_2, s_g6_3, s_T⟩
        obtain ⟨v0, hv0⟩ : ∃ w', w' = wr.drew := ⟨_, rfl⟩
        have H_g5_0 : Hid (GAt v0 g5 lv mo y u) := by rw [hv0]; exact H_g5.out
        have H_g6_0 : Hid (GAt v0 g6 lv mo y u) := by rw [hv0]; exact H_g6.out
        have HB_0 : Hid (Below W.heap.size W v0) := by rw [hv0]; exact HB.out.drew
        have HT_0 : Hid (v0.cell? ⟨b, off + k, none⟩ = some (.int .u32 (T : Int))) := by rw [hv0]; exact HT.out
        rw [← hv0] at hHeld ⊢
        clear hv0 s_g5_0 s_g5_1 s_g5_2 s_g5_3 s_g6_0 s_g6_1 s_g6_2 s_g6_3 s_T
        refine wpAnyH_take (i := 0) (oi := { dst := some 55, op := Go.Op.load 37 (Go.Operand.tmp 5), type := 37, pos := "law.go:49", after := #[], guard := none }) (v := ?_) rfl (by kernel_rfl) (by kernel_rfl) (by kernel_rfl) (fun _ _ _ h => h) (Or.inl ⟨by rfl, ?_⟩) (by assumption) ?_
        rotate_left
        · intro w hSw
          (try dsimp only at hSw)
          go_simp
          try with_reducible rfl
        (try simp only [Act.put, List.setIfInBounds_toArray, List.set_cons_zero, List.set_cons_succ])
        refine wpAnyH_take (i := 1) (oi := { dst := some 56, op := Go.Op.move (Go.Operand.tmp 1), type := 36, pos := "law.go:49", after := #[], guard := none }) (v := ?_) rfl (by kernel_rfl) (by kernel_rfl) (by kernel_rfl) (fun _ _ _ h => h) (Or.inl ⟨by rfl, ?_⟩) (by assumption) ?_
        rotate_left
        · intro w hSw
          (try dsimp only at hSw)
          go_simp
          try with_reducible rfl
        (try simp only [Act.put, List.setIfInBounds_toArray, List.set_cons_zero, List.set_cons_succ])
        refine wpAnyH_take (i := 2) (oi := { dst := some 57, op := Go.Op.move (Go.Operand.tmp 7), type := 3, pos := "law.go:49", after := #[], guard := none }) (v := ?_) rfl (by kernel_rfl) (by kernel_rfl) (by kernel_rfl) (fun _ _ _ h => h) (Or.inl ⟨by rfl, ?_⟩) (by assumption) ?_
        rotate_left
        · intro w hSw
          (try dsimp only at hSw)
          go_simp
          try with_reducible rfl
        (try simp only [Act.put, List.setIfInBounds_toArray, List.set_cons_zero, List.set_cons_succ])
        refine wpAnyH_take (i := 3) (oi := { dst := some 58, op := Go.Op.indexAddr 36 (Go.Operand.tmp 56) (Go.Operand.tmp 57), type := 0, pos := "law.go:49", after := #[{ on := 1, ground := Go.Ground.data }, { on := 2, ground := Go.Ground.data }], guard := none }) (v := ?_) rfl (by kernel_rfl) (by kernel_rfl) (by kernel_rfl) (fun _ _ _ h => h) (Or.inl ⟨by rfl, ?_⟩) (by assumption) ?_
        rotate_left
        · intro w hSw
          (try dsimp only at hSw)
          go_simp
          try with_reducible rfl
        (try simp only [Act.put, List.setIfInBounds_toArray, List.set_cons_zero, List.set_cons_succ])
        refine wpAnyH_take (i := 4) (oi := { dst := some 59, op := Go.Op.load 33 (Go.Operand.tmp 58), type := 33, pos := "law.go:49", after := #[{ on := 3, ground := Go.Ground.data }], guard := none }) (v := ?_) rfl (by kernel_rfl) (by kernel_rfl) (by kernel_rfl) (fun _ _ _ h => h) (Or.inl ⟨by rfl, ?_⟩) (by assumption) ?_
        rotate_left
        · intro w hSw
          (try dsimp only at hSw)
          go_simp
          try with_reducible rfl
        (try simp only [Act.put, List.setIfInBounds_toArray, List.set_cons_zero, List.set_cons_succ])
        refine wpAnyH_take (i := 7) (oi := { dst := some 62, op := Go.Op.load 35 (Go.Operand.tmp 6), type := 35, pos := "law.go:49", after := #[], guard := none }) (v := ?_) rfl (by kernel_rfl) (by kernel_rfl) (by kernel_rfl) (fun _ _ _ h => h) (Or.inl ⟨by rfl, ?_⟩) (by assumption) ?_
        rotate_left
        · intro w hSw
          (try dsimp only at hSw)
          go_simp
          try with_reducible rfl
        (try simp only [Act.put, List.setIfInBounds_toArray, List.set_cons_zero, List.set_cons_succ])
        refine wpAnyH_take (i := 8) (oi := { dst := some 63, op := Go.Op.move (Go.Operand.tmp 1), type := 36, pos := "law.go:49", after := #[], guard := none }) (v := ?_) rfl (by kernel_rfl) (by kernel_rfl) (by kernel_rfl) (fun _ _ _ h => h) (Or.inl ⟨by rfl, ?_⟩) (by assumption) ?_
        rotate_left
        · intro w hSw
          (try dsimp only at hSw)
          go_simp
          try with_reducible rfl
        (try simp only [Act.put, List.setIfInBounds_toArray, List.set_cons_zero, List.set_cons_succ])
        refine wpAnyH_take (i := 9) (oi := { dst := some 64, op := Go.Op.move (Go.Operand.tmp 7), type := 3, pos := "law.go:49", after := #[], guard := none }) (v := ?_) rfl (by kernel_rfl) (by kernel_rfl) (by kernel_rfl) (fun _ _ _ h => h) (Or.inl ⟨by rfl, ?_⟩) (by assumption) ?_
        rotate_left
        · intro w hSw
          (try dsimp only at hSw)
          go_simp
          try with_reducible rfl
        (try simp only [Act.put, List.setIfInBounds_toArray, List.set_cons_zero, List.set_cons_succ])
        refine wpAnyH_take (i := 10) (oi := { dst := some 65, op := Go.Op.indexAddr 36 (Go.Operand.tmp 63) (Go.Operand.tmp 64), type := 0, pos := "law.go:49", after := #[{ on := 8, ground := Go.Ground.data }, { on := 9, ground := Go.Ground.data }], guard := none }) (v := ?_) rfl (by kernel_rfl) (by kernel_rfl) (by kernel_rfl) (fun _ _ _ h => h) (Or.inl ⟨by rfl, ?_⟩) (by assumption) ?_
        rotate_left
        · intro w hSw
          (try dsimp only at hSw)
          go_simp
          try with_reducible rfl
        (try simp only [Act.put, List.setIfInBounds_toArray, List.set_cons_zero, List.set_cons_succ])
        refine wpAnyH_take (i := 11) (oi := { dst := some 66, op := Go.Op.load 33 (Go.Operand.tmp 65), type := 33, pos := "law.go:49", after := #[{ on := 10, ground := Go.Ground.data }], guard := none }) (v := ?_) rfl (by kernel_rfl) (by kernel_rfl) (by kernel_rfl) (fun _ _ _ h => h) (Or.inl ⟨by rfl, ?_⟩) (by assumption) ?_
        rotate_left
        · intro w hSw
          (try dsimp only at hSw)
          go_simp
          try with_reducible rfl
        (try simp only [Act.put, List.setIfInBounds_toArray, List.set_cons_zero, List.set_cons_succ])
        refine wpAnyH_ready (rs := [5]) (by kernel_rfl) (by simp) ?_
        refine (AllReadyH.cons (o := { dst := some 60, op := Go.Op.call { callee := Go.Callee.value (Go.Operand.func 25), args := #[Go.Operand.tmp 55, Go.Operand.tmp 59], argTypes := #[37, 33] }, type := 37, pos := "law.go:49", after := #[{ on := 0, ground := Go.Ground.data }, { on := 4, ground := Go.Ground.data }], guard := none }) rfl (fun K hK => ?_) AllReadyH.nil)
        go_simp
        have l_g5 := H_g5_0.out.1
        have l_g6 := H_g6_0.out.1
        have l_W := HB_0.out.size
        refine (HF1.out _).mono ?_
        rintro e v1 ⟨rfl, hb⟩
        refine hK.out _ _ ?_ (fun hHeld => ?_)
        · (try dsimp only)
          obtain ⟨q0, q1, q2, q3, q4, q5, q6, q7, q8⟩ := hHeld
          exact ⟨(hb.cell (p := ⟨g5, _, none⟩) (by show g5 < v0.heap.size; omega)).trans q0, (hb.cell (p := ⟨g5, _, none⟩) (by show g5 < v0.heap.size; omega)).trans q1, (hb.cell (p := ⟨g5, _, none⟩) (by show g5 < v0.heap.size; omega)).trans q2, (hb.cell (p := ⟨g5, _, none⟩) (by show g5 < v0.heap.size; omega)).trans q3, (hb.cell (p := ⟨g6, _, none⟩) (by show g6 < v0.heap.size; omega)).trans q4, (hb.cell (p := ⟨g6, _, none⟩) (by show g6 < v0.heap.size; omega)).trans q5, (hb.cell (p := ⟨g6, _, none⟩) (by show g6 < v0.heap.size; omega)).trans q6, (hb.cell (p := ⟨g6, _, none⟩) (by show g6 < v0.heap.size; omega)).trans q7, (hb.cell (p := ⟨b, _, none⟩) (by show b < v0.heap.size; omega)).trans q8⟩
        clear hK K
        (try simp only [Act.put, List.setIfInBounds_toArray, List.set_cons_zero, List.set_cons_succ])
        have H_g5_1 := Lib.hid (H_g5_0.out.call hb)
        have H_g6_1 := Lib.hid (H_g6_0.out.call hb)
        have HB_1 := Lib.hid (HB_0.out.trans (hb.mono HB_0.out.size))
        have HT_1 : Hid (v1.cell? ⟨b, off + k, none⟩ = some (.int .u32 (T : Int))) := (hb.cell (p := ⟨b, off + k, none⟩) (by show b < v0.heap.size; omega)).trans HT_0.out
        clear hb
        refine wpAnyH_ready (rs := [6]) (by kernel_rfl) (by simp) ?_
        refine (AllReadyH.cons (o := { dst := some 61, op := Go.Op.call { callee := Go.Callee.value (Go.Operand.func 21), args := #[Go.Operand.tmp 60], argTypes := #[37] }, type := 35, pos := "law.go:49", after := #[{ on := 5, ground := Go.Ground.data }, { on := 5, ground := Go.Ground.chain }], guard := none }) rfl (fun K hK => ?_) AllReadyH.nil)
        go_simp
        have l_g5 := H_g5_1.out.1
        have l_g6 := H_g6_1.out.1
        have l_W := HB_1.out.size
        refine (HFR.out f T _).mono ?_
        rintro e v2 ⟨rfl, hb⟩
        refine hK.out _ _ ?_ (fun hHeld => ?_)
        · (try dsimp only)
          obtain ⟨q0, q1, q2, q3, q4, q5, q6, q7, q8⟩ := hHeld
          exact ⟨(hb.cell (p := ⟨g5, _, none⟩) (by show g5 < v1.heap.size; omega)).trans q0, (hb.cell (p := ⟨g5, _, none⟩) (by show g5 < v1.heap.size; omega)).trans q1, (hb.cell (p := ⟨g5, _, none⟩) (by show g5 < v1.heap.size; omega)).trans q2, (hb.cell (p := ⟨g5, _, none⟩) (by show g5 < v1.heap.size; omega)).trans q3, (hb.cell (p := ⟨g6, _, none⟩) (by show g6 < v1.heap.size; omega)).trans q4, (hb.cell (p := ⟨g6, _, none⟩) (by show g6 < v1.heap.size; omega)).trans q5, (hb.cell (p := ⟨g6, _, none⟩) (by show g6 < v1.heap.size; omega)).trans q6, (hb.cell (p := ⟨g6, _, none⟩) (by show g6 < v1.heap.size; omega)).trans q7, (hb.cell (p := ⟨b, _, none⟩) (by show b < v1.heap.size; omega)).trans q8⟩
        clear hK K
        (try simp only [Act.put, List.setIfInBounds_toArray, List.set_cons_zero, List.set_cons_succ])
        have H_g5_2 := Lib.hid (H_g5_1.out.call hb)
        have H_g6_2 := Lib.hid (H_g6_1.out.call hb)
        have HB_2 := Lib.hid (HB_1.out.trans (hb.mono HB_1.out.size))
        have HT_2 : Hid (v2.cell? ⟨b, off + k, none⟩ = some (.int .u32 (T : Int))) := (hb.cell (p := ⟨b, off + k, none⟩) (by show b < v1.heap.size; omega)).trans HT_1.out
        clear hb
        refine wpAnyH_ready (rs := [12]) (by kernel_rfl) (by simp) ?_
        refine (AllReadyH.cons (o := { dst := some 67, op := Go.Op.call { callee := Go.Callee.value (Go.Operand.func 26), args := #[Go.Operand.tmp 62, Go.Operand.tmp 66], argTypes := #[35, 33] }, type := 35, pos := "law.go:49", after := #[{ on := 7, ground := Go.Ground.data }, { on := 11, ground := Go.Ground.data }, { on := 6, ground := Go.Ground.chain }], guard := none }) rfl (fun K hK => ?_) AllReadyH.nil)
        go_simp
        have l_g5 := H_g5_2.out.1
        have l_g6 := H_g6_2.out.1
        have l_W := HB_2.out.size
        refine (HF2.out _).mono ?_
        rintro e v3 ⟨rfl, hb⟩
        refine hK.out _ _ ?_ (fun hHeld => ?_)
        · (try dsimp only)
          obtain ⟨q0, q1, q2, q3, q4, q5, q6, q7, q8⟩ := hHeld
          exact ⟨(hb.cell (p := ⟨g5, _, none⟩) (by show g5 < v2.heap.size; omega)).trans q0, (hb.cell (p := ⟨g5, _, none⟩) (by show g5 < v2.heap.size; omega)).trans q1, (hb.cell (p := ⟨g5, _, none⟩) (by show g5 < v2.heap.size; omega)).trans q2, (hb.cell (p := ⟨g5, _, none⟩) (by show g5 < v2.heap.size; omega)).trans q3, (hb.cell (p := ⟨g6, _, none⟩) (by show g6 < v2.heap.size; omega)).trans q4, (hb.cell (p := ⟨g6, _, none⟩) (by show g6 < v2.heap.size; omega)).trans q5, (hb.cell (p := ⟨g6, _, none⟩) (by show g6 < v2.heap.size; omega)).trans q6, (hb.cell (p := ⟨g6, _, none⟩) (by show g6 < v2.heap.size; omega)).trans q7, (hb.cell (p := ⟨b, _, none⟩) (by show b < v2.heap.size; omega)).trans q8⟩
        clear hK K
        (try simp only [Act.put, List.setIfInBounds_toArray, List.set_cons_zero, List.set_cons_succ])
        have H_g5_3 := Lib.hid (H_g5_2.out.call hb)
        have H_g6_3 := Lib.hid (H_g6_2.out.call hb)
        have HB_3 := Lib.hid (HB_2.out.trans (hb.mono HB_2.out.size))
        have HT_3 : Hid (v3.cell? ⟨b, off + k, none⟩ = some (.int .u32 (T : Int))) := (hb.cell (p := ⟨b, off + k, none⟩) (by show b < v2.heap.size; omega)).trans HT_2.out
        clear hb
        refine wpAnyH_ready (rs := [13]) (by kernel_rfl) (by simp) ?_
        refine (AllReadyH.cons (o := { dst := some 68, op := Go.Op.call { callee := Go.Callee.value (Go.Operand.func 20), args := #[Go.Operand.tmp 61, Go.Operand.tmp 67], argTypes := #[35, 35] }, type := 4, pos := "law.go:49", after := #[{ on := 6, ground := Go.Ground.data }, { on := 12, ground := Go.Ground.data }, { on := 12, ground := Go.Ground.chain }], guard := none }) rfl (fun K hK => ?_) AllReadyH.nil)
        go_simp
        have l_g5 := H_g5_3.out.1
        have l_g6 := H_g6_3.out.1
        have l_W := HB_3.out.size
        refine (HE1.out _).mono ?_
        rintro e v4 ⟨rfl, hb⟩
        refine hK.out _ _ ?_ (fun hHeld => ?_)
        · (try dsimp only)
          obtain ⟨q0, q1, q2, q3, q4, q5, q6, q7, q8⟩ := hHeld
          exact ⟨(hb.cell (p := ⟨g5, _, none⟩) (by show g5 < v3.heap.size; omega)).trans q0, (hb.cell (p := ⟨g5, _, none⟩) (by show g5 < v3.heap.size; omega)).trans q1, (hb.cell (p := ⟨g5, _, none⟩) (by show g5 < v3.heap.size; omega)).trans q2, (hb.cell (p := ⟨g5, _, none⟩) (by show g5 < v3.heap.size; omega)).trans q3, (hb.cell (p := ⟨g6, _, none⟩) (by show g6 < v3.heap.size; omega)).trans q4, (hb.cell (p := ⟨g6, _, none⟩) (by show g6 < v3.heap.size; omega)).trans q5, (hb.cell (p := ⟨g6, _, none⟩) (by show g6 < v3.heap.size; omega)).trans q6, (hb.cell (p := ⟨g6, _, none⟩) (by show g6 < v3.heap.size; omega)).trans q7, (hb.cell (p := ⟨b, _, none⟩) (by show b < v3.heap.size; omega)).trans q8⟩
        clear hK K
        (try simp only [Act.put, List.setIfInBounds_toArray, List.set_cons_zero, List.set_cons_succ])
        have H_g5_4 := Lib.hid (H_g5_3.out.call hb)
        have H_g6_4 := Lib.hid (H_g6_3.out.call hb)
        have HB_4 := Lib.hid (HB_3.out.trans (hb.mono HB_3.out.size))
        have HT_4 : Hid (v4.cell? ⟨b, off + k, none⟩ = some (.int .u32 (T : Int))) := (hb.cell (p := ⟨b, off + k, none⟩) (by show b < v3.heap.size; omega)).trans HT_3.out
        clear hb
        refine wpAnyH_take (i := 14) (oi := { dst := some 69, op := Go.Op.unOp Go.UnOp.not 4 (Go.Operand.tmp 68), type := 4, pos := "law.go:49", after := #[{ on := 13, ground := Go.Ground.data }], guard := none }) (v := ?_) rfl (by kernel_rfl) (by kernel_rfl) (by kernel_rfl) (fun _ _ _ h => h) (Or.inl ⟨by rfl, ?_⟩) (by assumption) ?_
        rotate_left
        · intro w hSw
          (try dsimp only at hSw)
          go_simp
          try with_reducible rfl
        (try simp only [Act.put, List.setIfInBounds_toArray, List.set_cons_zero, List.set_cons_succ])
        refine wpAnyH_done (by kernel_rfl) ?_ _
        clear hHeld
        have H_g5 := H_g5_4
        have H_g6 := H_g6_4
        have HB := HB_4
        have HT := HT_4
        clear H_g5_0 H_g6_0 HB_0 HT_0
        clear H_g5_1 H_g6_1 HB_1 HT_1
        clear H_g5_2 H_g6_2 HB_2 HT_2
        clear H_g5_3 H_g6_3 HB_3 HT_3
        clear H_g5_4 H_g6_4 HB_4 HT_4
        go_wp2_with fail
        go_cut [8, 9] (fun p8 b9 wx => ∃ h8 : Nat, p8 = .pointer (some ⟨h8, 0, none⟩) ∧ b9 = .bool ok ∧ h8 ≠ g5 ∧ h8 ≠ g6 ∧ W.heap.size < h8 ∧ Hid (GAt wx h8 lv mo q T) ∧ Hid (GAt wx g5 lv mo y u) ∧ Hid (GAt wx g6 lv mo y u) ∧ Hid (wx.cell? ⟨b, off + k, none⟩ = some (.int .u32 (T : Int))) ∧ Hid (Below W.heap.size W wx))
        case first =>
          have l_g5 := H_g5.out.1
          have l_g6 := H_g6.out.1
          have l_W := HB.out.size
          obtain ⟨_, s_g5_0, s_g5_1, s_g5_2, s_g5_3, _⟩ := H_g5.out
          have s_T := HT.out
          refine wp_region_held_drew (S := fun w' => w'.cell? ⟨g5, 0, none⟩ = some (.float .f64 lv) ∧ w'.cell? ⟨g5, 1, none⟩ = some (.float .f64 mo) ∧ w'.cell? ⟨g5, 2, none⟩ = some (.float .f64 y) ∧ w'.cell? ⟨g5, 3, none⟩ = some (.int .u32 (u : Int)) ∧ w'.cell? ⟨b, off + k, none⟩ = some (.int .u32 (T : Int))) (by kernel_rfl) ?_ (fun hHeld => ?_)
          · exact ⟨s_g5_0, s_g5_1, s_g5_2, s_g5_3, s_T⟩
          obtain ⟨v0, hv0⟩ : ∃ w', w' = v4.drew := ⟨_, rfl⟩
          have H_g5_0 : Hid (GAt v0 g5 lv mo y u) := by rw [hv0]; exact H_g5.out
          have H_g6_0 : Hid (GAt v0 g6 lv mo y u) := by rw [hv0]; exact H_g6.out
          have HB_0 : Hid (Below W.heap.size W v0) := by rw [hv0]; exact HB.out.drew
          have HT_0 : Hid (v0.cell? ⟨b, off + k, none⟩ = some (.int .u32 (T : Int))) := by rw [hv0]; exact HT.out
          rw [← hv0] at hHeld ⊢
          clear hv0 s_g5_0 s_g5_1 s_g5_2 s_g5_3 s_T
          refine wpAnyH_take (i := 0) (oi := { dst := some 71, op := Go.Op.load 37 (Go.Operand.tmp 5), type := 37, pos := "law.go:52", after := #[], guard := none }) (v := ?_) rfl (by kernel_rfl) (by kernel_rfl) (by kernel_rfl) (fun _ _ _ h => h) (Or.inl ⟨by rfl, ?_⟩) (by assumption) ?_
          rotate_left
          · intro w hSw
            (try dsimp only at hSw)
            go_simp
            try with_reducible rfl
          (try simp only [Act.put, List.setIfInBounds_toArray, List.set_cons_zero, List.set_cons_succ])
          refine wpAnyH_take (i := 1) (oi := { dst := some 72, op := Go.Op.move (Go.Operand.tmp 1), type := 36, pos := "law.go:52", after := #[], guard := none }) (v := ?_) rfl (by kernel_rfl) (by kernel_rfl) (by kernel_rfl) (fun _ _ _ h => h) (Or.inl ⟨by rfl, ?_⟩) (by assumption) ?_
          rotate_left
          · intro w hSw
            (try dsimp only at hSw)
            go_simp
            try with_reducible rfl
          (try simp only [Act.put, List.setIfInBounds_toArray, List.set_cons_zero, List.set_cons_succ])
          refine wpAnyH_take (i := 2) (oi := { dst := some 73, op := Go.Op.move (Go.Operand.tmp 7), type := 3, pos := "law.go:52", after := #[], guard := none }) (v := ?_) rfl (by kernel_rfl) (by kernel_rfl) (by kernel_rfl) (fun _ _ _ h => h) (Or.inl ⟨by rfl, ?_⟩) (by assumption) ?_
          rotate_left
          · intro w hSw
            (try dsimp only at hSw)
            go_simp
            try with_reducible rfl
          (try simp only [Act.put, List.setIfInBounds_toArray, List.set_cons_zero, List.set_cons_succ])
          refine wpAnyH_take (i := 3) (oi := { dst := some 74, op := Go.Op.indexAddr 36 (Go.Operand.tmp 72) (Go.Operand.tmp 73), type := 0, pos := "law.go:52", after := #[{ on := 1, ground := Go.Ground.data }, { on := 2, ground := Go.Ground.data }], guard := none }) (v := ?_) rfl (by kernel_rfl) (by kernel_rfl) (by kernel_rfl) (fun _ _ _ h => h) (Or.inl ⟨by rfl, ?_⟩) (by assumption) ?_
          rotate_left
          · intro w hSw
            (try dsimp only at hSw)
            go_simp
            try with_reducible rfl
          (try simp only [Act.put, List.setIfInBounds_toArray, List.set_cons_zero, List.set_cons_succ])
          refine wpAnyH_take (i := 4) (oi := { dst := some 75, op := Go.Op.load 33 (Go.Operand.tmp 74), type := 33, pos := "law.go:52", after := #[{ on := 3, ground := Go.Ground.data }], guard := none }) (v := ?_) rfl (by kernel_rfl) (by kernel_rfl) (by kernel_rfl) (fun _ _ _ h => h) (Or.inl ⟨by rfl, ?_⟩) (by assumption) ?_
          rotate_left
          · intro w hSw
            (try dsimp only at hSw)
            go_simp
            try with_reducible rfl
          (try simp only [Act.put, List.setIfInBounds_toArray, List.set_cons_zero, List.set_cons_succ])
          refine wpAnyH_ready (rs := [5, 9]) (by kernel_rfl) (by simp) ?_
          refine (AllReadyH.cons (o := { dst := some 76, op := Go.Op.call { callee := Go.Callee.value (Go.Operand.func 27), args := #[Go.Operand.tmp 71, Go.Operand.tmp 75], argTypes := #[37, 33] }, type := 46, pos := "law.go:52", after := #[{ on := 0, ground := Go.Ground.data }, { on := 4, ground := Go.Ground.data }], guard := none }) rfl (fun K hK => ?_) (AllReadyH.cons (o := { dst := some 8, op := Go.Op.alloc 37, type := 0, pos := "law.go:52", after := #[], guard := none }) rfl (fun K hK => ?_) AllReadyH.nil))
          · go_simp
            have l_g5 := H_g5_0.out.1
            have l_g6 := H_g6_0.out.1
            have l_W := HB_0.out.size
            refine (HK1.out _).mono ?_
            rintro e v1 ⟨rfl, hb⟩
            refine hK.out _ _ ?_ (fun hHeld => ?_)
            · (try dsimp only)
              obtain ⟨q0, q1, q2, q3, q4⟩ := hHeld
              exact ⟨(hb.cell (p := ⟨g5, _, none⟩) (by show g5 < v0.heap.size; omega)).trans q0, (hb.cell (p := ⟨g5, _, none⟩) (by show g5 < v0.heap.size; omega)).trans q1, (hb.cell (p := ⟨g5, _, none⟩) (by show g5 < v0.heap.size; omega)).trans q2, (hb.cell (p := ⟨g5, _, none⟩) (by show g5 < v0.heap.size; omega)).trans q3, (hb.cell (p := ⟨b, _, none⟩) (by show b < v0.heap.size; omega)).trans q4⟩
            clear hK K
            (try simp only [Act.put, List.setIfInBounds_toArray, List.set_cons_zero, List.set_cons_succ])
            have H_g5_1 := Lib.hid (H_g5_0.out.call hb)
            have H_g6_1 := Lib.hid (H_g6_0.out.call hb)
            have HB_1 := Lib.hid (HB_0.out.trans (hb.mono HB_0.out.size))
            have HT_1 : Hid (v1.cell? ⟨b, off + k, none⟩ = some (.int .u32 (T : Int))) := (hb.cell (p := ⟨b, off + k, none⟩) (by show b < v0.heap.size; omega)).trans HT_0.out
            clear hb
            refine wpAnyH_take (i := 6) (oi := { dst := some 70, op := Go.Op.move (Go.Operand.tmp 76), type := 46, pos := "law.go:52", after := #[{ on := 5, ground := Go.Ground.data }], guard := none }) (v := ?_) rfl (by kernel_rfl) (by kernel_rfl) (by kernel_rfl) (fun _ _ _ h => h) (Or.inl ⟨by rfl, ?_⟩) (by assumption) ?_
            rotate_left
            · intro w hSw
              (try dsimp only at hSw)
              go_simp
              try with_reducible rfl
            (try simp only [Act.put, List.setIfInBounds_toArray, List.set_cons_zero, List.set_cons_succ])
            refine wpAnyH_take (i := 7) (oi := { dst := some 77, op := Go.Op.extract (Go.Operand.tmp 70) 0, type := 37, pos := "law.go:52", after := #[{ on := 6, ground := Go.Ground.data }], guard := none }) (v := ?_) rfl (by kernel_rfl) (by kernel_rfl) (by kernel_rfl) (fun _ _ _ h => h) (Or.inl ⟨by rfl, ?_⟩) (by assumption) ?_
            rotate_left
            · intro w hSw
              (try dsimp only at hSw)
              go_simp
              try with_reducible rfl
            (try simp only [Act.put, List.setIfInBounds_toArray, List.set_cons_zero, List.set_cons_succ])
            refine wpAnyH_take (i := 8) (oi := { dst := some 78, op := Go.Op.extract (Go.Operand.tmp 70) 1, type := 4, pos := "law.go:52", after := #[{ on := 6, ground := Go.Ground.data }, { on := 10, ground := Go.Ground.gcOnly Go.Departure.lateStores }], guard := none }) (v := ?_) rfl (by kernel_rfl) (by kernel_rfl) (by kernel_rfl) (fun _ _ _ h => h) (Or.inl ⟨by rfl, ?_⟩) (by assumption) ?_
            rotate_left
            · intro w hSw
              (try dsimp only at hSw)
              go_simp
              try with_reducible rfl
            (try simp only [Act.put, List.setIfInBounds_toArray, List.set_cons_zero, List.set_cons_succ])
            refine wpAnyH_ready (rs := [9]) (by kernel_rfl) (by simp) ?_
            refine (AllReadyH.cons (o := { dst := some 8, op := Go.Op.alloc 37, type := 0, pos := "law.go:52", after := #[], guard := none }) rfl (fun K hK => ?_) AllReadyH.nil)
            go_simp
            have l_g5 := H_g5_1.out.1
            have l_g6 := H_g6_1.out.1
            have l_W := HB_1.out.size

            refine hK.out _ _ ?_ (fun hHeld => ?_)
            · (try dsimp only)
              obtain ⟨q0, q1, q2, q3, q4⟩ := hHeld
              exact ⟨(World.cell?_alloc_lt _ _ _ (by show g5 < v1.heap.size; omega)).trans q0, (World.cell?_alloc_lt _ _ _ (by show g5 < v1.heap.size; omega)).trans q1, (World.cell?_alloc_lt _ _ _ (by show g5 < v1.heap.size; omega)).trans q2, (World.cell?_alloc_lt _ _ _ (by show g5 < v1.heap.size; omega)).trans q3, (World.cell?_alloc_lt _ _ _ (by show b < v1.heap.size; omega)).trans q4⟩
            clear hK K
            (try simp only [Act.put, List.setIfInBounds_toArray, List.set_cons_zero, List.set_cons_succ])
            obtain ⟨h8, hgn⟩ : ∃ g', g' = v1.heap.size := ⟨_, rfl⟩
            obtain ⟨v2, hvn⟩ : ∃ w', w' = v1.alloc (.cells #[.float .f64 0, .float .f64 0, .float .f64 0, .int .u32 0] 37) := ⟨_, rfl⟩
            have H_g5_2 : Hid (GAt v2 g5 lv mo y u) := by rw [hvn]; exact H_g5_1.out.alloc _
            have H_g6_2 : Hid (GAt v2 g6 lv mo y u) := by rw [hvn]; exact H_g6_1.out.alloc _
            have H_h8_2 : Hid (GAt v2 h8 0 0 0 0) := by rw [hvn, hgn]; exact GAt.new
            have HB_2 : Hid (Below W.heap.size W v2) := by rw [hvn]; exact HB_1.out.alloc HB_1.out.size _
            have HT_2 : Hid (v2.cell? ⟨b, off + k, none⟩ = some (.int .u32 (T : Int))) := by rw [hvn]; exact (World.cell?_alloc_lt _ _ _ (by show b < v1.heap.size; omega)).trans HT_1.out
            have ne_h8_g5 : g5 < h8 := by rw [hgn]; omega
            have ne_h8_g6 : g6 < h8 := by rw [hgn]; omega
            rw [← hvn] at hHeld ⊢
            try rw [← hgn]
            clear hvn hgn
            have l_g5 := H_g5_2.out.1
            have l_g6 := H_g6_2.out.1
            have l_h8 := H_h8_2.out.1
            have l_W := HB_2.out.size
            obtain ⟨_, p0, p1, p2, p3, pf⟩ := H_h8_2.out
            refine wpAnyH_ready (rs := [10]) (by kernel_rfl) (by simp) ?_
            refine (AllReadyH.cons (o := { dst := none, op := Go.Op.store 37 (Go.Operand.tmp 8) (Go.Operand.tmp 77), type := 0, pos := "law.go:52", after := #[{ on := 9, ground := Go.Ground.data }, { on := 7, ground := Go.Ground.data }, { on := 5, ground := Go.Ground.chain }, { on := 0, ground := Go.Ground.phase }, { on := 1, ground := Go.Ground.phase }, { on := 2, ground := Go.Ground.phase }, { on := 3, ground := Go.Ground.phase }, { on := 4, ground := Go.Ground.phase }, { on := 5, ground := Go.Ground.phase }, { on := 6, ground := Go.Ground.phase }, { on := 7, ground := Go.Ground.phase }, { on := 8, ground := Go.Ground.textOnly Go.Departure.lateStores }, { on := 9, ground := Go.Ground.phase }], guard := none }) rfl (fun K hK => ?_) AllReadyH.nil)
            go_simp

            refine hK.out _ _ ?_ (fun hHeld => ?_)
            · (try dsimp only)
              exact ⟨(H_g5_2.out.other (show g5 ≠ h8 by omega) lv mo q T).2.1, (H_g5_2.out.other (show g5 ≠ h8 by omega) lv mo q T).2.2.1, (H_g5_2.out.other (show g5 ≠ h8 by omega) lv mo q T).2.2.2.1, (H_g5_2.out.other (show g5 ≠ h8 by omega) lv mo q T).2.2.2.2.1, ((setG_below (Below.refl h8 v2) (Nat.le_refl _) lv mo q T).cell (p := ⟨b, off + k, none⟩) (by show b < h8; omega)).trans HT_2.out⟩
            clear hK K
            (try simp only [Act.put, List.setIfInBounds_toArray, List.set_cons_zero, List.set_cons_succ])
            obtain ⟨v3, hvn⟩ : ∃ w', w' = setG v2 h8 lv mo q T := ⟨_, rfl⟩
            have H_g5_3 : Hid (GAt v3 g5 lv mo y u) := by rw [hvn]; exact H_g5_2.out.other (by omega) _ _ _ _
            have H_g6_3 : Hid (GAt v3 g6 lv mo y u) := by rw [hvn]; exact H_g6_2.out.other (by omega) _ _ _ _
            have H_h8_3 : Hid (GAt v3 h8 lv mo q T) := by rw [hvn]; exact H_h8_2.out.set _ _ _ _
            have HB_3 : Hid (Below W.heap.size W v3) := by rw [hvn]; exact setG_below HB_2.out (by omega) _ _ _ _
            have HT_3 : Hid (v3.cell? ⟨b, off + k, none⟩ = some (.int .u32 (T : Int))) := by rw [hvn]; exact ((setG_below (Below.refl h8 v2) (Nat.le_refl _) lv mo q T).cell (p := ⟨b, off + k, none⟩) (by show b < h8; omega)).trans HT_2.out
            unfold setG at hvn
            rw [← hvn] at hHeld ⊢
            clear hvn p0 p1 p2 p3 pf
            refine wpAnyH_take (i := 11) (oi := { dst := some 9, op := Go.Op.assign (Go.Operand.tmp 78), type := 4, pos := "law.go:52", after := #[{ on := 8, ground := Go.Ground.data }, { on := 10, ground := Go.Ground.chain }, { on := 0, ground := Go.Ground.phase }, { on := 1, ground := Go.Ground.phase }, { on := 2, ground := Go.Ground.phase }, { on := 3, ground := Go.Ground.phase }, { on := 4, ground := Go.Ground.phase }, { on := 5, ground := Go.Ground.phase }, { on := 6, ground := Go.Ground.phase }, { on := 7, ground := Go.Ground.phase }, { on := 8, ground := Go.Ground.phase }, { on := 9, ground := Go.Ground.phase }, { on := 10, ground := Go.Ground.phase }], guard := none }) (v := ?_) rfl (by kernel_rfl) (by kernel_rfl) (by kernel_rfl) (fun _ _ _ h => h) (Or.inl ⟨by rfl, ?_⟩) (by assumption) ?_
            rotate_left
            · intro w hSw
              (try dsimp only at hSw)
              go_simp
              try with_reducible rfl
            (try simp only [Act.put, List.setIfInBounds_toArray, List.set_cons_zero, List.set_cons_succ])
            refine wpAnyH_done (by kernel_rfl) ?_ _
            clear hHeld
            go_wp2_with fail
            go_meet
            exact ⟨h8, rfl, rfl, by omega, by omega, by omega, H_h8_3, H_g5_3, H_g6_3, HT_3, HB_3⟩
          · go_simp
            have l_g5 := H_g5_0.out.1
            have l_g6 := H_g6_0.out.1
            have l_W := HB_0.out.size

            refine hK.out _ _ ?_ (fun hHeld => ?_)
            · (try dsimp only)
              obtain ⟨q0, q1, q2, q3, q4⟩ := hHeld
              exact ⟨(World.cell?_alloc_lt _ _ _ (by show g5 < v0.heap.size; omega)).trans q0, (World.cell?_alloc_lt _ _ _ (by show g5 < v0.heap.size; omega)).trans q1, (World.cell?_alloc_lt _ _ _ (by show g5 < v0.heap.size; omega)).trans q2, (World.cell?_alloc_lt _ _ _ (by show g5 < v0.heap.size; omega)).trans q3, (World.cell?_alloc_lt _ _ _ (by show b < v0.heap.size; omega)).trans q4⟩
            clear hK K
            (try simp only [Act.put, List.setIfInBounds_toArray, List.set_cons_zero, List.set_cons_succ])
            obtain ⟨h8, hgn⟩ : ∃ g', g' = v0.heap.size := ⟨_, rfl⟩
            obtain ⟨v1, hvn⟩ : ∃ w', w' = v0.alloc (.cells #[.float .f64 0, .float .f64 0, .float .f64 0, .int .u32 0] 37) := ⟨_, rfl⟩
            have H_g5_1 : Hid (GAt v1 g5 lv mo y u) := by rw [hvn]; exact H_g5_0.out.alloc _
            have H_g6_1 : Hid (GAt v1 g6 lv mo y u) := by rw [hvn]; exact H_g6_0.out.alloc _
            have H_h8_1 : Hid (GAt v1 h8 0 0 0 0) := by rw [hvn, hgn]; exact GAt.new
            have HB_1 : Hid (Below W.heap.size W v1) := by rw [hvn]; exact HB_0.out.alloc HB_0.out.size _
            have HT_1 : Hid (v1.cell? ⟨b, off + k, none⟩ = some (.int .u32 (T : Int))) := by rw [hvn]; exact (World.cell?_alloc_lt _ _ _ (by show b < v0.heap.size; omega)).trans HT_0.out
            have ne_h8_g5 : g5 < h8 := by rw [hgn]; omega
            have ne_h8_g6 : g6 < h8 := by rw [hgn]; omega
            rw [← hvn] at hHeld ⊢
            try rw [← hgn]
            clear hvn hgn
            refine wpAnyH_ready (rs := [5]) (by kernel_rfl) (by simp) ?_
            refine (AllReadyH.cons (o := { dst := some 76, op := Go.Op.call { callee := Go.Callee.value (Go.Operand.func 27), args := #[Go.Operand.tmp 71, Go.Operand.tmp 75], argTypes := #[37, 33] }, type := 46, pos := "law.go:52", after := #[{ on := 0, ground := Go.Ground.data }, { on := 4, ground := Go.Ground.data }], guard := none }) rfl (fun K hK => ?_) AllReadyH.nil)
            go_simp
            have l_g5 := H_g5_1.out.1
            have l_g6 := H_g6_1.out.1
            have l_h8 := H_h8_1.out.1
            have l_W := HB_1.out.size
            refine (HK1.out _).mono ?_
            rintro e v2 ⟨rfl, hb⟩
            refine hK.out _ _ ?_ (fun hHeld => ?_)
            · (try dsimp only)
              obtain ⟨q0, q1, q2, q3, q4⟩ := hHeld
              exact ⟨(hb.cell (p := ⟨g5, _, none⟩) (by show g5 < v1.heap.size; omega)).trans q0, (hb.cell (p := ⟨g5, _, none⟩) (by show g5 < v1.heap.size; omega)).trans q1, (hb.cell (p := ⟨g5, _, none⟩) (by show g5 < v1.heap.size; omega)).trans q2, (hb.cell (p := ⟨g5, _, none⟩) (by show g5 < v1.heap.size; omega)).trans q3, (hb.cell (p := ⟨b, _, none⟩) (by show b < v1.heap.size; omega)).trans q4⟩
            clear hK K
            (try simp only [Act.put, List.setIfInBounds_toArray, List.set_cons_zero, List.set_cons_succ])
            have H_g5_2 := Lib.hid (H_g5_1.out.call hb)
            have H_g6_2 := Lib.hid (H_g6_1.out.call hb)
            have H_h8_2 := Lib.hid (H_h8_1.out.call hb)
            have HB_2 := Lib.hid (HB_1.out.trans (hb.mono HB_1.out.size))
            have HT_2 : Hid (v2.cell? ⟨b, off + k, none⟩ = some (.int .u32 (T : Int))) := (hb.cell (p := ⟨b, off + k, none⟩) (by show b < v1.heap.size; omega)).trans HT_1.out
            clear hb
            have l_g5 := H_g5_2.out.1
            have l_g6 := H_g6_2.out.1
            have l_h8 := H_h8_2.out.1
            have l_W := HB_2.out.size
            obtain ⟨_, p0, p1, p2, p3, pf⟩ := H_h8_2.out
            refine wpAnyH_take (i := 6) (oi := { dst := some 70, op := Go.Op.move (Go.Operand.tmp 76), type := 46, pos := "law.go:52", after := #[{ on := 5, ground := Go.Ground.data }], guard := none }) (v := ?_) rfl (by kernel_rfl) (by kernel_rfl) (by kernel_rfl) (fun _ _ _ h => h) (Or.inl ⟨by rfl, ?_⟩) (by assumption) ?_
            rotate_left
            · intro w hSw
              (try dsimp only at hSw)
              go_simp
              try with_reducible rfl
            (try simp only [Act.put, List.setIfInBounds_toArray, List.set_cons_zero, List.set_cons_succ])
            refine wpAnyH_take (i := 7) (oi := { dst := some 77, op := Go.Op.extract (Go.Operand.tmp 70) 0, type := 37, pos := "law.go:52", after := #[{ on := 6, ground := Go.Ground.data }], guard := none }) (v := ?_) rfl (by kernel_rfl) (by kernel_rfl) (by kernel_rfl) (fun _ _ _ h => h) (Or.inl ⟨by rfl, ?_⟩) (by assumption) ?_
            rotate_left
            · intro w hSw
              (try dsimp only at hSw)
              go_simp
              try with_reducible rfl
            (try simp only [Act.put, List.setIfInBounds_toArray, List.set_cons_zero, List.set_cons_succ])
            refine wpAnyH_take (i := 8) (oi := { dst := some 78, op := Go.Op.extract (Go.Operand.tmp 70) 1, type := 4, pos := "law.go:52", after := #[{ on := 6, ground := Go.Ground.data }, { on := 10, ground := Go.Ground.gcOnly Go.Departure.lateStores }], guard := none }) (v := ?_) rfl (by kernel_rfl) (by kernel_rfl) (by kernel_rfl) (fun _ _ _ h => h) (Or.inl ⟨by rfl, ?_⟩) (by assumption) ?_
            rotate_left
            · intro w hSw
              (try dsimp only at hSw)
              go_simp
              try with_reducible rfl
            (try simp only [Act.put, List.setIfInBounds_toArray, List.set_cons_zero, List.set_cons_succ])
            refine wpAnyH_ready (rs := [10]) (by kernel_rfl) (by simp) ?_
            refine (AllReadyH.cons (o := { dst := none, op := Go.Op.store 37 (Go.Operand.tmp 8) (Go.Operand.tmp 77), type := 0, pos := "law.go:52", after := #[{ on := 9, ground := Go.Ground.data }, { on := 7, ground := Go.Ground.data }, { on := 5, ground := Go.Ground.chain }, { on := 0, ground := Go.Ground.phase }, { on := 1, ground := Go.Ground.phase }, { on := 2, ground := Go.Ground.phase }, { on := 3, ground := Go.Ground.phase }, { on := 4, ground := Go.Ground.phase }, { on := 5, ground := Go.Ground.phase }, { on := 6, ground := Go.Ground.phase }, { on := 7, ground := Go.Ground.phase }, { on := 8, ground := Go.Ground.textOnly Go.Departure.lateStores }, { on := 9, ground := Go.Ground.phase }], guard := none }) rfl (fun K hK => ?_) AllReadyH.nil)
            go_simp

            refine hK.out _ _ ?_ (fun hHeld => ?_)
            · (try dsimp only)
              exact ⟨(H_g5_2.out.other (show g5 ≠ h8 by omega) lv mo q T).2.1, (H_g5_2.out.other (show g5 ≠ h8 by omega) lv mo q T).2.2.1, (H_g5_2.out.other (show g5 ≠ h8 by omega) lv mo q T).2.2.2.1, (H_g5_2.out.other (show g5 ≠ h8 by omega) lv mo q T).2.2.2.2.1, ((setG_below (Below.refl h8 v2) (Nat.le_refl _) lv mo q T).cell (p := ⟨b, off + k, none⟩) (by show b < h8; omega)).trans HT_2.out⟩
            clear hK K
            (try simp only [Act.put, List.setIfInBounds_toArray, List.set_cons_zero, List.set_cons_succ])
            obtain ⟨v3, hvn⟩ : ∃ w', w' = setG v2 h8 lv mo q T := ⟨_, rfl⟩
            have H_g5_3 : Hid (GAt v3 g5 lv mo y u) := by rw [hvn]; exact H_g5_2.out.other (by omega) _ _ _ _
            have H_g6_3 : Hid (GAt v3 g6 lv mo y u) := by rw [hvn]; exact H_g6_2.out.other (by omega) _ _ _ _
            have H_h8_3 : Hid (GAt v3 h8 lv mo q T) := by rw [hvn]; exact H_h8_2.out.set _ _ _ _
            have HB_3 : Hid (Below W.heap.size W v3) := by rw [hvn]; exact setG_below HB_2.out (by omega) _ _ _ _
            have HT_3 : Hid (v3.cell? ⟨b, off + k, none⟩ = some (.int .u32 (T : Int))) := by rw [hvn]; exact ((setG_below (Below.refl h8 v2) (Nat.le_refl _) lv mo q T).cell (p := ⟨b, off + k, none⟩) (by show b < h8; omega)).trans HT_2.out
            unfold setG at hvn
            rw [← hvn] at hHeld ⊢
            clear hvn p0 p1 p2 p3 pf
            refine wpAnyH_take (i := 11) (oi := { dst := some 9, op := Go.Op.assign (Go.Operand.tmp 78), type := 4, pos := "law.go:52", after := #[{ on := 8, ground := Go.Ground.data }, { on := 10, ground := Go.Ground.chain }, { on := 0, ground := Go.Ground.phase }, { on := 1, ground := Go.Ground.phase }, { on := 2, ground := Go.Ground.phase }, { on := 3, ground := Go.Ground.phase }, { on := 4, ground := Go.Ground.phase }, { on := 5, ground := Go.Ground.phase }, { on := 6, ground := Go.Ground.phase }, { on := 7, ground := Go.Ground.phase }, { on := 8, ground := Go.Ground.phase }, { on := 9, ground := Go.Ground.phase }, { on := 10, ground := Go.Ground.phase }], guard := none }) (v := ?_) rfl (by kernel_rfl) (by kernel_rfl) (by kernel_rfl) (fun _ _ _ h => h) (Or.inl ⟨by rfl, ?_⟩) (by assumption) ?_
            rotate_left
            · intro w hSw
              (try dsimp only at hSw)
              go_simp
              try with_reducible rfl
            (try simp only [Act.put, List.setIfInBounds_toArray, List.set_cons_zero, List.set_cons_succ])
            refine wpAnyH_done (by kernel_rfl) ?_ _
            clear hHeld
            go_wp2_with fail
            go_meet
            exact ⟨h8, rfl, rfl, by omega, by omega, by omega, H_h8_3, H_g5_3, H_g6_3, HT_3, HB_3⟩
        case rest =>
          obtain ⟨h8, rfl, rfl, n85, n86, n8w, H_h8, H_g5, H_g6, HT, HB⟩ := hcut
          go_wp2_with fail
          go_cut [10, 11] (fun p10 b11 wx => ∃ h10 : Nat, p10 = .pointer (some ⟨h10, 0, none⟩) ∧ b11 = .bool ok ∧ h10 ≠ g5 ∧ h10 ≠ g6 ∧ h10 ≠ h8 ∧ W.heap.size < h10 ∧ Hid (GAt wx h10 lv mo q T) ∧ Hid (GAt wx h8 lv mo q T) ∧ Hid (GAt wx g5 lv mo y u) ∧ Hid (GAt wx g6 lv mo y u) ∧ Hid (wx.cell? ⟨b, off + k, none⟩ = some (.int .u32 (T : Int))) ∧ Hid (Below W.heap.size W wx))
          case first =>
            have l_g5 := H_g5.out.1
            have l_g6 := H_g6.out.1
            have l_h8 := H_h8.out.1
            have l_W := HB.out.size
            obtain ⟨_, s_g6_0, s_g6_1, s_g6_2, s_g6_3, _⟩ := H_g6.out
            have s_T := HT.out
            refine wp_region_held_drew (S := fun w' => w'.cell? ⟨g6, 0, none⟩ = some (.float .f64 lv) ∧ w'.cell? ⟨g6, 1, none⟩ = some (.float .f64 mo) ∧ w'.cell? ⟨g6, 2, none⟩ = some (.float .f64 y) ∧ w'.cell? ⟨g6, 3, none⟩ = some (.int .u32 (u : Int)) ∧ w'.cell? ⟨b, off + k, none⟩ = some (.int .u32 (T : Int))) (by kernel_rfl) ?_ (fun hHeld => ?_)
            · exact ⟨s_g6_0, s_g6_1, s_g6_2, s_g6_3, s_T⟩
            obtain ⟨v0, hv0⟩ : ∃ w', w' = wc.drew := ⟨_, rfl⟩
            have H_g5_0 : Hid (GAt v0 g5 lv mo y u) := by rw [hv0]; exact H_g5.out
            have H_g6_0 : Hid (GAt v0 g6 lv mo y u) := by rw [hv0]; exact H_g6.out
            have H_h8_0 : Hid (GAt v0 h8 lv mo q T) := by rw [hv0]; exact H_h8.out
            have HB_0 : Hid (Below W.heap.size W v0) := by rw [hv0]; exact HB.out.drew
            have HT_0 : Hid (v0.cell? ⟨b, off + k, none⟩ = some (.int .u32 (T : Int))) := by rw [hv0]; exact HT.out
            rw [← hv0] at hHeld ⊢
            clear hv0 s_g6_0 s_g6_1 s_g6_2 s_g6_3 s_T
            refine wpAnyH_take (i := 0) (oi := { dst := some 80, op := Go.Op.load 35 (Go.Operand.tmp 6), type := 35, pos := "law.go:53", after := #[], guard := none }) (v := ?_) rfl (by kernel_rfl) (by kernel_rfl) (by kernel_rfl) (fun _ _ _ h => h) (Or.inl ⟨by rfl, ?_⟩) (by assumption) ?_
            rotate_left
            · intro w hSw
              (try dsimp only at hSw)
              go_simp
              try with_reducible rfl
            (try simp only [Act.put, List.setIfInBounds_toArray, List.set_cons_zero, List.set_cons_succ])
            refine wpAnyH_take (i := 1) (oi := { dst := some 81, op := Go.Op.move (Go.Operand.tmp 1), type := 36, pos := "law.go:53", after := #[], guard := none }) (v := ?_) rfl (by kernel_rfl) (by kernel_rfl) (by kernel_rfl) (fun _ _ _ h => h) (Or.inl ⟨by rfl, ?_⟩) (by assumption) ?_
            rotate_left
            · intro w hSw
              (try dsimp only at hSw)
              go_simp
              try with_reducible rfl
            (try simp only [Act.put, List.setIfInBounds_toArray, List.set_cons_zero, List.set_cons_succ])
            refine wpAnyH_take (i := 2) (oi := { dst := some 82, op := Go.Op.move (Go.Operand.tmp 7), type := 3, pos := "law.go:53", after := #[], guard := none }) (v := ?_) rfl (by kernel_rfl) (by kernel_rfl) (by kernel_rfl) (fun _ _ _ h => h) (Or.inl ⟨by rfl, ?_⟩) (by assumption) ?_
            rotate_left
            · intro w hSw
              (try dsimp only at hSw)
              go_simp
              try with_reducible rfl
            (try simp only [Act.put, List.setIfInBounds_toArray, List.set_cons_zero, List.set_cons_succ])
            refine wpAnyH_take (i := 3) (oi := { dst := some 83, op := Go.Op.indexAddr 36 (Go.Operand.tmp 81) (Go.Operand.tmp 82), type := 0, pos := "law.go:53", after := #[{ on := 1, ground := Go.Ground.data }, { on := 2, ground := Go.Ground.data }], guard := none }) (v := ?_) rfl (by kernel_rfl) (by kernel_rfl) (by kernel_rfl) (fun _ _ _ h => h) (Or.inl ⟨by rfl, ?_⟩) (by assumption) ?_
            rotate_left
            · intro w hSw
              (try dsimp only at hSw)
              go_simp
              try with_reducible rfl
            (try simp only [Act.put, List.setIfInBounds_toArray, List.set_cons_zero, List.set_cons_succ])
            refine wpAnyH_take (i := 4) (oi := { dst := some 84, op := Go.Op.load 33 (Go.Operand.tmp 83), type := 33, pos := "law.go:53", after := #[{ on := 3, ground := Go.Ground.data }], guard := none }) (v := ?_) rfl (by kernel_rfl) (by kernel_rfl) (by kernel_rfl) (fun _ _ _ h => h) (Or.inl ⟨by rfl, ?_⟩) (by assumption) ?_
            rotate_left
            · intro w hSw
              (try dsimp only at hSw)
              go_simp
              try with_reducible rfl
            (try simp only [Act.put, List.setIfInBounds_toArray, List.set_cons_zero, List.set_cons_succ])
            refine wpAnyH_ready (rs := [5, 9]) (by kernel_rfl) (by simp) ?_
            refine (AllReadyH.cons (o := { dst := some 85, op := Go.Op.call { callee := Go.Callee.value (Go.Operand.func 28), args := #[Go.Operand.tmp 80, Go.Operand.tmp 84], argTypes := #[35, 33] }, type := 48, pos := "law.go:53", after := #[{ on := 0, ground := Go.Ground.data }, { on := 4, ground := Go.Ground.data }], guard := none }) rfl (fun K hK => ?_) (AllReadyH.cons (o := { dst := some 10, op := Go.Op.alloc 35, type := 0, pos := "law.go:53", after := #[], guard := none }) rfl (fun K hK => ?_) AllReadyH.nil))
            · go_simp
              have l_g5 := H_g5_0.out.1
              have l_g6 := H_g6_0.out.1
              have l_h8 := H_h8_0.out.1
              have l_W := HB_0.out.size
              refine (HK2.out _).mono ?_
              rintro e v1 ⟨rfl, hb⟩
              refine hK.out _ _ ?_ (fun hHeld => ?_)
              · (try dsimp only)
                obtain ⟨q0, q1, q2, q3, q4⟩ := hHeld
                exact ⟨(hb.cell (p := ⟨g6, _, none⟩) (by show g6 < v0.heap.size; omega)).trans q0, (hb.cell (p := ⟨g6, _, none⟩) (by show g6 < v0.heap.size; omega)).trans q1, (hb.cell (p := ⟨g6, _, none⟩) (by show g6 < v0.heap.size; omega)).trans q2, (hb.cell (p := ⟨g6, _, none⟩) (by show g6 < v0.heap.size; omega)).trans q3, (hb.cell (p := ⟨b, _, none⟩) (by show b < v0.heap.size; omega)).trans q4⟩
              clear hK K
              (try simp only [Act.put, List.setIfInBounds_toArray, List.set_cons_zero, List.set_cons_succ])
              have H_g5_1 := Lib.hid (H_g5_0.out.call hb)
              have H_g6_1 := Lib.hid (H_g6_0.out.call hb)
              have H_h8_1 := Lib.hid (H_h8_0.out.call hb)
              have HB_1 := Lib.hid (HB_0.out.trans (hb.mono HB_0.out.size))
              have HT_1 : Hid (v1.cell? ⟨b, off + k, none⟩ = some (.int .u32 (T : Int))) := (hb.cell (p := ⟨b, off + k, none⟩) (by show b < v0.heap.size; omega)).trans HT_0.out
              clear hb
              refine wpAnyH_take (i := 6) (oi := { dst := some 79, op := Go.Op.move (Go.Operand.tmp 85), type := 48, pos := "law.go:53", after := #[{ on := 5, ground := Go.Ground.data }], guard := none }) (v := ?_) rfl (by kernel_rfl) (by kernel_rfl) (by kernel_rfl) (fun _ _ _ h => h) (Or.inl ⟨by rfl, ?_⟩) (by assumption) ?_
              rotate_left
              · intro w hSw
                (try dsimp only at hSw)
                go_simp
                try with_reducible rfl
              (try simp only [Act.put, List.setIfInBounds_toArray, List.set_cons_zero, List.set_cons_succ])
              refine wpAnyH_take (i := 7) (oi := { dst := some 86, op := Go.Op.extract (Go.Operand.tmp 79) 0, type := 35, pos := "law.go:53", after := #[{ on := 6, ground := Go.Ground.data }], guard := none }) (v := ?_) rfl (by kernel_rfl) (by kernel_rfl) (by kernel_rfl) (fun _ _ _ h => h) (Or.inl ⟨by rfl, ?_⟩) (by assumption) ?_
              rotate_left
              · intro w hSw
                (try dsimp only at hSw)
                go_simp
                try with_reducible rfl
              (try simp only [Act.put, List.setIfInBounds_toArray, List.set_cons_zero, List.set_cons_succ])
              refine wpAnyH_take (i := 8) (oi := { dst := some 87, op := Go.Op.extract (Go.Operand.tmp 79) 1, type := 4, pos := "law.go:53", after := #[{ on := 6, ground := Go.Ground.data }, { on := 10, ground := Go.Ground.gcOnly Go.Departure.lateStores }], guard := none }) (v := ?_) rfl (by kernel_rfl) (by kernel_rfl) (by kernel_rfl) (fun _ _ _ h => h) (Or.inl ⟨by rfl, ?_⟩) (by assumption) ?_
              rotate_left
              · intro w hSw
                (try dsimp only at hSw)
                go_simp
                try with_reducible rfl
              (try simp only [Act.put, List.setIfInBounds_toArray, List.set_cons_zero, List.set_cons_succ])
              refine wpAnyH_ready (rs := [9]) (by kernel_rfl) (by simp) ?_
              refine (AllReadyH.cons (o := { dst := some 10, op := Go.Op.alloc 35, type := 0, pos := "law.go:53", after := #[], guard := none }) rfl (fun K hK => ?_) AllReadyH.nil)
              go_simp
              have l_g5 := H_g5_1.out.1
              have l_g6 := H_g6_1.out.1
              have l_h8 := H_h8_1.out.1
              have l_W := HB_1.out.size

              refine hK.out _ _ ?_ (fun hHeld => ?_)
              · (try dsimp only)
                obtain ⟨q0, q1, q2, q3, q4⟩ := hHeld
                exact ⟨(World.cell?_alloc_lt _ _ _ (by show g6 < v1.heap.size; omega)).trans q0, (World.cell?_alloc_lt _ _ _ (by show g6 < v1.heap.size; omega)).trans q1, (World.cell?_alloc_lt _ _ _ (by show g6 < v1.heap.size; omega)).trans q2, (World.cell?_alloc_lt _ _ _ (by show g6 < v1.heap.size; omega)).trans q3, (World.cell?_alloc_lt _ _ _ (by show b < v1.heap.size; omega)).trans q4⟩
              clear hK K
              (try simp only [Act.put, List.setIfInBounds_toArray, List.set_cons_zero, List.set_cons_succ])
              obtain ⟨h10, hgn⟩ : ∃ g', g' = v1.heap.size := ⟨_, rfl⟩
              obtain ⟨v2, hvn⟩ : ∃ w', w' = v1.alloc (.cells #[.float .f64 0, .float .f64 0, .float .f64 0, .int .u32 0] 35) := ⟨_, rfl⟩
              have H_g5_2 : Hid (GAt v2 g5 lv mo y u) := by rw [hvn]; exact H_g5_1.out.alloc _
              have H_g6_2 : Hid (GAt v2 g6 lv mo y u) := by rw [hvn]; exact H_g6_1.out.alloc _
              have H_h8_2 : Hid (GAt v2 h8 lv mo q T) := by rw [hvn]; exact H_h8_1.out.alloc _
              have H_h10_2 : Hid (GAt v2 h10 0 0 0 0) := by rw [hvn, hgn]; exact GAt.new
              have HB_2 : Hid (Below W.heap.size W v2) := by rw [hvn]; exact HB_1.out.alloc HB_1.out.size _
              have HT_2 : Hid (v2.cell? ⟨b, off + k, none⟩ = some (.int .u32 (T : Int))) := by rw [hvn]; exact (World.cell?_alloc_lt _ _ _ (by show b < v1.heap.size; omega)).trans HT_1.out
              have ne_h10_g5 : g5 < h10 := by rw [hgn]; omega
              have ne_h10_g6 : g6 < h10 := by rw [hgn]; omega
              have ne_h10_h8 : h8 < h10 := by rw [hgn]; omega
              rw [← hvn] at hHeld ⊢
              try rw [← hgn]
              clear hvn hgn
              have l_g5 := H_g5_2.out.1
              have l_g6 := H_g6_2.out.1
              have l_h8 := H_h8_2.out.1
              have l_h10 := H_h10_2.out.1
              have l_W := HB_2.out.size
              obtain ⟨_, p0, p1, p2, p3, pf⟩ := H_h10_2.out
              refine wpAnyH_ready (rs := [10]) (by kernel_rfl) (by simp) ?_
              refine (AllReadyH.cons (o := { dst := none, op := Go.Op.store 35 (Go.Operand.tmp 10) (Go.Operand.tmp 86), type := 0, pos := "law.go:53", after := #[{ on := 9, ground := Go.Ground.data }, { on := 7, ground := Go.Ground.data }, { on := 5, ground := Go.Ground.chain }, { on := 0, ground := Go.Ground.phase }, { on := 1, ground := Go.Ground.phase }, { on := 2, ground := Go.Ground.phase }, { on := 3, ground := Go.Ground.phase }, { on := 4, ground := Go.Ground.phase }, { on := 5, ground := Go.Ground.phase }, { on := 6, ground := Go.Ground.phase }, { on := 7, ground := Go.Ground.phase }, { on := 8, ground := Go.Ground.textOnly Go.Departure.lateStores }, { on := 9, ground := Go.Ground.phase }], guard := none }) rfl (fun K hK => ?_) AllReadyH.nil)
              go_simp

              refine hK.out _ _ ?_ (fun hHeld => ?_)
              · (try dsimp only)
                exact ⟨(H_g6_2.out.other (show g6 ≠ h10 by omega) lv mo q T).2.1, (H_g6_2.out.other (show g6 ≠ h10 by omega) lv mo q T).2.2.1, (H_g6_2.out.other (show g6 ≠ h10 by omega) lv mo q T).2.2.2.1, (H_g6_2.out.other (show g6 ≠ h10 by omega) lv mo q T).2.2.2.2.1, ((setG_below (Below.refl h10 v2) (Nat.le_refl _) lv mo q T).cell (p := ⟨b, off + k, none⟩) (by show b < h10; omega)).trans HT_2.out⟩
              clear hK K
              (try simp only [Act.put, List.setIfInBounds_toArray, List.set_cons_zero, List.set_cons_succ])
              obtain ⟨v3, hvn⟩ : ∃ w', w' = setG v2 h10 lv mo q T := ⟨_, rfl⟩
              have H_g5_3 : Hid (GAt v3 g5 lv mo y u) := by rw [hvn]; exact H_g5_2.out.other (by omega) _ _ _ _
              have H_g6_3 : Hid (GAt v3 g6 lv mo y u) := by rw [hvn]; exact H_g6_2.out.other (by omega) _ _ _ _
              have H_h8_3 : Hid (GAt v3 h8 lv mo q T) := by rw [hvn]; exact H_h8_2.out.other (by omega) _ _ _ _
              have H_h10_3 : Hid (GAt v3 h10 lv mo q T) := by rw [hvn]; exact H_h10_2.out.set _ _ _ _
              have HB_3 : Hid (Below W.heap.size W v3) := by rw [hvn]; exact setG_below HB_2.out (by omega) _ _ _ _
              have HT_3 : Hid (v3.cell? ⟨b, off + k, none⟩ = some (.int .u32 (T : Int))) := by rw [hvn]; exact ((setG_below (Below.refl h10 v2) (Nat.le_refl _) lv mo q T).cell (p := ⟨b, off + k, none⟩) (by show b < h10; omega)).trans HT_2.out
              unfold setG at hvn
              rw [← hvn] at hHeld ⊢
              clear hvn p0 p1 p2 p3 pf
              refine wpAnyH_take (i := 11) (oi := { dst := some 11, op := Go.Op.assign (Go.Operand.tmp 87), type := 4, pos := "law.go:53", after := #[{ on := 8, ground := Go.Ground.data }, { on := 10, ground := Go.Ground.chain }, { on := 0, ground := Go.Ground.phase }, { on := 1, ground := Go.Ground.phase }, { on := 2, ground := Go.Ground.phase }, { on := 3, ground := Go.Ground.phase }, { on := 4, ground := Go.Ground.phase }, { on := 5, ground := Go.Ground.phase }, { on := 6, ground := Go.Ground.phase }, { on := 7, ground := Go.Ground.phase }, { on := 8, ground := Go.Ground.phase }, { on := 9, ground := Go.Ground.phase }, { on := 10, ground := Go.Ground.phase }], guard := none }) (v := ?_) rfl (by kernel_rfl) (by kernel_rfl) (by kernel_rfl) (fun _ _ _ h => h) (Or.inl ⟨by rfl, ?_⟩) (by assumption) ?_
              rotate_left
              · intro w hSw
                (try dsimp only at hSw)
                go_simp
                try with_reducible rfl
              (try simp only [Act.put, List.setIfInBounds_toArray, List.set_cons_zero, List.set_cons_succ])
              refine wpAnyH_done (by kernel_rfl) ?_ _
              clear hHeld
              go_wp2_with fail
              go_meet
              exact ⟨h10, rfl, rfl, by omega, by omega, by omega, by omega, H_h10_3, H_h8_3, H_g5_3, H_g6_3, HT_3, HB_3⟩
            · go_simp
              have l_g5 := H_g5_0.out.1
              have l_g6 := H_g6_0.out.1
              have l_h8 := H_h8_0.out.1
              have l_W := HB_0.out.size

              refine hK.out _ _ ?_ (fun hHeld => ?_)
              · (try dsimp only)
                obtain ⟨q0, q1, q2, q3, q4⟩ := hHeld
                exact ⟨(World.cell?_alloc_lt _ _ _ (by show g6 < v0.heap.size; omega)).trans q0, (World.cell?_alloc_lt _ _ _ (by show g6 < v0.heap.size; omega)).trans q1, (World.cell?_alloc_lt _ _ _ (by show g6 < v0.heap.size; omega)).trans q2, (World.cell?_alloc_lt _ _ _ (by show g6 < v0.heap.size; omega)).trans q3, (World.cell?_alloc_lt _ _ _ (by show b < v0.heap.size; omega)).trans q4⟩
              clear hK K
              (try simp only [Act.put, List.setIfInBounds_toArray, List.set_cons_zero, List.set_cons_succ])
              obtain ⟨h10, hgn⟩ : ∃ g', g' = v0.heap.size := ⟨_, rfl⟩
              obtain ⟨v1, hvn⟩ : ∃ w', w' = v0.alloc (.cells #[.float .f64 0, .float .f64 0, .float .f64 0, .int .u32 0] 35) := ⟨_, rfl⟩
              have H_g5_1 : Hid (GAt v1 g5 lv mo y u) := by rw [hvn]; exact H_g5_0.out.alloc _
              have H_g6_1 : Hid (GAt v1 g6 lv mo y u) := by rw [hvn]; exact H_g6_0.out.alloc _
              have H_h8_1 : Hid (GAt v1 h8 lv mo q T) := by rw [hvn]; exact H_h8_0.out.alloc _
              have H_h10_1 : Hid (GAt v1 h10 0 0 0 0) := by rw [hvn, hgn]; exact GAt.new
              have HB_1 : Hid (Below W.heap.size W v1) := by rw [hvn]; exact HB_0.out.alloc HB_0.out.size _
              have HT_1 : Hid (v1.cell? ⟨b, off + k, none⟩ = some (.int .u32 (T : Int))) := by rw [hvn]; exact (World.cell?_alloc_lt _ _ _ (by show b < v0.heap.size; omega)).trans HT_0.out
              have ne_h10_g5 : g5 < h10 := by rw [hgn]; omega
              have ne_h10_g6 : g6 < h10 := by rw [hgn]; omega
              have ne_h10_h8 : h8 < h10 := by rw [hgn]; omega
              rw [← hvn] at hHeld ⊢
              try rw [← hgn]
              clear hvn hgn
              refine wpAnyH_ready (rs := [5]) (by kernel_rfl) (by simp) ?_
              refine (AllReadyH.cons (o := { dst := some 85, op := Go.Op.call { callee := Go.Callee.value (Go.Operand.func 28), args := #[Go.Operand.tmp 80, Go.Operand.tmp 84], argTypes := #[35, 33] }, type := 48, pos := "law.go:53", after := #[{ on := 0, ground := Go.Ground.data }, { on := 4, ground := Go.Ground.data }], guard := none }) rfl (fun K hK => ?_) AllReadyH.nil)
              go_simp
              have l_g5 := H_g5_1.out.1
              have l_g6 := H_g6_1.out.1
              have l_h8 := H_h8_1.out.1
              have l_h10 := H_h10_1.out.1
              have l_W := HB_1.out.size
              refine (HK2.out _).mono ?_
              rintro e v2 ⟨rfl, hb⟩
              refine hK.out _ _ ?_ (fun hHeld => ?_)
              · (try dsimp only)
                obtain ⟨q0, q1, q2, q3, q4⟩ := hHeld
                exact ⟨(hb.cell (p := ⟨g6, _, none⟩) (by show g6 < v1.heap.size; omega)).trans q0, (hb.cell (p := ⟨g6, _, none⟩) (by show g6 < v1.heap.size; omega)).trans q1, (hb.cell (p := ⟨g6, _, none⟩) (by show g6 < v1.heap.size; omega)).trans q2, (hb.cell (p := ⟨g6, _, none⟩) (by show g6 < v1.heap.size; omega)).trans q3, (hb.cell (p := ⟨b, _, none⟩) (by show b < v1.heap.size; omega)).trans q4⟩
              clear hK K
              (try simp only [Act.put, List.setIfInBounds_toArray, List.set_cons_zero, List.set_cons_succ])
              have H_g5_2 := Lib.hid (H_g5_1.out.call hb)
              have H_g6_2 := Lib.hid (H_g6_1.out.call hb)
              have H_h8_2 := Lib.hid (H_h8_1.out.call hb)
              have H_h10_2 := Lib.hid (H_h10_1.out.call hb)
              have HB_2 := Lib.hid (HB_1.out.trans (hb.mono HB_1.out.size))
              have HT_2 : Hid (v2.cell? ⟨b, off + k, none⟩ = some (.int .u32 (T : Int))) := (hb.cell (p := ⟨b, off + k, none⟩) (by show b < v1.heap.size; omega)).trans HT_1.out
              clear hb
              have l_g5 := H_g5_2.out.1
              have l_g6 := H_g6_2.out.1
              have l_h8 := H_h8_2.out.1
              have l_h10 := H_h10_2.out.1
              have l_W := HB_2.out.size
              obtain ⟨_, p0, p1, p2, p3, pf⟩ := H_h10_2.out
              refine wpAnyH_take (i := 6) (oi := { dst := some 79, op := Go.Op.move (Go.Operand.tmp 85), type := 48, pos := "law.go:53", after := #[{ on := 5, ground := Go.Ground.data }], guard := none }) (v := ?_) rfl (by kernel_rfl) (by kernel_rfl) (by kernel_rfl) (fun _ _ _ h => h) (Or.inl ⟨by rfl, ?_⟩) (by assumption) ?_
              rotate_left
              · intro w hSw
                (try dsimp only at hSw)
                go_simp
                try with_reducible rfl
              (try simp only [Act.put, List.setIfInBounds_toArray, List.set_cons_zero, List.set_cons_succ])
              refine wpAnyH_take (i := 7) (oi := { dst := some 86, op := Go.Op.extract (Go.Operand.tmp 79) 0, type := 35, pos := "law.go:53", after := #[{ on := 6, ground := Go.Ground.data }], guard := none }) (v := ?_) rfl (by kernel_rfl) (by kernel_rfl) (by kernel_rfl) (fun _ _ _ h => h) (Or.inl ⟨by rfl, ?_⟩) (by assumption) ?_
              rotate_left
              · intro w hSw
                (try dsimp only at hSw)
                go_simp
                try with_reducible rfl
              (try simp only [Act.put, List.setIfInBounds_toArray, List.set_cons_zero, List.set_cons_succ])
              refine wpAnyH_take (i := 8) (oi := { dst := some 87, op := Go.Op.extract (Go.Operand.tmp 79) 1, type := 4, pos := "law.go:53", after := #[{ on := 6, ground := Go.Ground.data }, { on := 10, ground := Go.Ground.gcOnly Go.Departure.lateStores }], guard := none }) (v := ?_) rfl (by kernel_rfl) (by kernel_rfl) (by kernel_rfl) (fun _ _ _ h => h) (Or.inl ⟨by rfl, ?_⟩) (by assumption) ?_
              rotate_left
              · intro w hSw
                (try dsimp only at hSw)
                go_simp
                try with_reducible rfl
              (try simp only [Act.put, List.setIfInBounds_toArray, List.set_cons_zero, List.set_cons_succ])
              refine wpAnyH_ready (rs := [10]) (by kernel_rfl) (by simp) ?_
              refine (AllReadyH.cons (o := { dst := none, op := Go.Op.store 35 (Go.Operand.tmp 10) (Go.Operand.tmp 86), type := 0, pos := "law.go:53", after := #[{ on := 9, ground := Go.Ground.data }, { on := 7, ground := Go.Ground.data }, { on := 5, ground := Go.Ground.chain }, { on := 0, ground := Go.Ground.phase }, { on := 1, ground := Go.Ground.phase }, { on := 2, ground := Go.Ground.phase }, { on := 3, ground := Go.Ground.phase }, { on := 4, ground := Go.Ground.phase }, { on := 5, ground := Go.Ground.phase }, { on := 6, ground := Go.Ground.phase }, { on := 7, ground := Go.Ground.phase }, { on := 8, ground := Go.Ground.textOnly Go.Departure.lateStores }, { on := 9, ground := Go.Ground.phase }], guard := none }) rfl (fun K hK => ?_) AllReadyH.nil)
              go_simp

              refine hK.out _ _ ?_ (fun hHeld => ?_)
              · (try dsimp only)
                exact ⟨(H_g6_2.out.other (show g6 ≠ h10 by omega) lv mo q T).2.1, (H_g6_2.out.other (show g6 ≠ h10 by omega) lv mo q T).2.2.1, (H_g6_2.out.other (show g6 ≠ h10 by omega) lv mo q T).2.2.2.1, (H_g6_2.out.other (show g6 ≠ h10 by omega) lv mo q T).2.2.2.2.1, ((setG_below (Below.refl h10 v2) (Nat.le_refl _) lv mo q T).cell (p := ⟨b, off + k, none⟩) (by show b < h10; omega)).trans HT_2.out⟩
              clear hK K
              (try simp only [Act.put, List.setIfInBounds_toArray, List.set_cons_zero, List.set_cons_succ])
              obtain ⟨v3, hvn⟩ : ∃ w', w' = setG v2 h10 lv mo q T := ⟨_, rfl⟩
              have H_g5_3 : Hid (GAt v3 g5 lv mo y u) := by rw [hvn]; exact H_g5_2.out.other (by omega) _ _ _ _
              have H_g6_3 : Hid (GAt v3 g6 lv mo y u) := by rw [hvn]; exact H_g6_2.out.other (by omega) _ _ _ _
              have H_h8_3 : Hid (GAt v3 h8 lv mo q T) := by rw [hvn]; exact H_h8_2.out.other (by omega) _ _ _ _
              have H_h10_3 : Hid (GAt v3 h10 lv mo q T) := by rw [hvn]; exact H_h10_2.out.set _ _ _ _
              have HB_3 : Hid (Below W.heap.size W v3) := by rw [hvn]; exact setG_below HB_2.out (by omega) _ _ _ _
              have HT_3 : Hid (v3.cell? ⟨b, off + k, none⟩ = some (.int .u32 (T : Int))) := by rw [hvn]; exact ((setG_below (Below.refl h10 v2) (Nat.le_refl _) lv mo q T).cell (p := ⟨b, off + k, none⟩) (by show b < h10; omega)).trans HT_2.out
              unfold setG at hvn
              rw [← hvn] at hHeld ⊢
              clear hvn p0 p1 p2 p3 pf
              refine wpAnyH_take (i := 11) (oi := { dst := some 11, op := Go.Op.assign (Go.Operand.tmp 87), type := 4, pos := "law.go:53", after := #[{ on := 8, ground := Go.Ground.data }, { on := 10, ground := Go.Ground.chain }, { on := 0, ground := Go.Ground.phase }, { on := 1, ground := Go.Ground.phase }, { on := 2, ground := Go.Ground.phase }, { on := 3, ground := Go.Ground.phase }, { on := 4, ground := Go.Ground.phase }, { on := 5, ground := Go.Ground.phase }, { on := 6, ground := Go.Ground.phase }, { on := 7, ground := Go.Ground.phase }, { on := 8, ground := Go.Ground.phase }, { on := 9, ground := Go.Ground.phase }, { on := 10, ground := Go.Ground.phase }], guard := none }) (v := ?_) rfl (by kernel_rfl) (by kernel_rfl) (by kernel_rfl) (fun _ _ _ h => h) (Or.inl ⟨by rfl, ?_⟩) (by assumption) ?_
              rotate_left
              · intro w hSw
                (try dsimp only at hSw)
                go_simp
                try with_reducible rfl
              (try simp only [Act.put, List.setIfInBounds_toArray, List.set_cons_zero, List.set_cons_succ])
              refine wpAnyH_done (by kernel_rfl) ?_ _
              clear hHeld
              go_wp2_with fail
              go_meet
              exact ⟨h10, rfl, rfl, by omega, by omega, by omega, by omega, H_h10_3, H_h8_3, H_g5_3, H_g6_3, HT_3, HB_3⟩
          case rest =>
            obtain ⟨h10, rfl, rfl, n05, n06, n08, n0w, H_h10, H_h8, H_g5, H_g6, HT, HB⟩ := hcut
            go_wp2_with fail
            have l_g5 := H_g5.out.1
            have l_g6 := H_g6.out.1
            have l_h8 := H_h8.out.1
            have l_h10 := H_h10.out.1
            have l_W := HB.out.size
            obtain ⟨_, s_h8_0, s_h8_1, s_h8_2, s_h8_3, _⟩ := H_h8.out
            obtain ⟨_, s_h10_0, s_h10_1, s_h10_2, s_h10_3, _⟩ := H_h10.out
            refine wp_region_held_drew (S := fun w' => w'.cell? ⟨h8, 0, none⟩ = some (.float .f64 lv) ∧ w'.cell? ⟨h8, 1, none⟩ = some (.float .f64 mo) ∧ w'.cell? ⟨h8, 2, none⟩ = some (.float .f64 q) ∧ w'.cell? ⟨h8, 3, none⟩ = some (.int .u32 (T : Int)) ∧ w'.cell? ⟨h10, 0, none⟩ = some (.float .f64 lv) ∧ w'.cell? ⟨h10, 1, none⟩ = some (.float .f64 mo) ∧ w'.cell? ⟨h10, 2, none⟩ = some (.float .f64 q) ∧ w'.cell? ⟨h10, 3, none⟩ = some (.int .u32 (T : Int))) (by kernel_rfl) ?_ (fun hHeld => ?_)
            · exact ⟨s_h8_0, s_h8_1, s_h8_2, s_h8_3, s_h10_0, s_h10_1, s_h10_2, s_h10_3⟩
            obtain ⟨v0, hv0⟩ : ∃ w', w' = wc.drew := ⟨_, rfl⟩
            have H_g5_0 : Hid (GAt v0 g5 lv mo y u) := by rw [hv0]; exact H_g5.out
            have H_g6_0 : Hid (GAt v0 g6 lv mo y u) := by rw [hv0]; exact H_g6.out
            have H_h8_0 : Hid (GAt v0 h8 lv mo q T) := by rw [hv0]; exact H_h8.out
            have H_h10_0 : Hid (GAt v0 h10 lv mo q T) := by rw [hv0]; exact H_h10.out
            have HB_0 : Hid (Below W.heap.size W v0) := by rw [hv0]; exact HB.out.drew
            rw [← hv0] at hHeld ⊢
            clear hv0 s_h8_0 s_h8_1 s_h8_2 s_h8_3 s_h10_0 s_h10_1 s_h10_2 s_h10_3
            refine wpAnyH_take (i := 0) (oi := { dst := some 88, op := Go.Op.move (Go.Operand.tmp 9), type := 4, pos := "law.go:54", after := #[], guard := none }) (v := ?_) rfl (by kernel_rfl) (by kernel_rfl) (by kernel_rfl) (fun _ _ _ h => h) (Or.inl ⟨by rfl, ?_⟩) (by assumption) ?_
            rotate_left
            · intro w hSw
              (try dsimp only at hSw)
              go_simp
              try with_reducible rfl
            (try simp only [Act.put, List.setIfInBounds_toArray, List.set_cons_zero, List.set_cons_succ])
            refine wpAnyH_take (i := 1) (oi := { dst := some 89, op := Go.Op.move (Go.Operand.tmp 11), type := 4, pos := "law.go:54", after := #[], guard := none }) (v := ?_) rfl (by kernel_rfl) (by kernel_rfl) (by kernel_rfl) (fun _ _ _ h => h) (Or.inl ⟨by rfl, ?_⟩) (by assumption) ?_
            rotate_left
            · intro w hSw
              (try dsimp only at hSw)
              go_simp
              try with_reducible rfl
            (try simp only [Act.put, List.setIfInBounds_toArray, List.set_cons_zero, List.set_cons_succ])
            refine wpAnyH_take (i := 2) (oi := { dst := some 90, op := Go.Op.binOp Go.BinOp.neq 4 (Go.Operand.tmp 88) (Go.Operand.tmp 89) 4, type := 4, pos := "law.go:54", after := #[{ on := 0, ground := Go.Ground.data }, { on := 1, ground := Go.Ground.data }], guard := none }) (v := ?_) rfl (by kernel_rfl) (by kernel_rfl) (by kernel_rfl) (fun _ _ _ h => h) (Or.inl ⟨by rfl, ?_⟩) (by assumption) ?_
            rotate_left
            · intro w hSw
              (try dsimp only at hSw)
              go_simp
              try with_reducible rfl
            (try simp only [Act.put, List.setIfInBounds_toArray, List.set_cons_zero, List.set_cons_succ])
            refine wpAnyH_take (i := 3) (oi := { dst := some 91, op := Go.Op.move (Go.Operand.tmp 90), type := 4, pos := "law.go:54", after := #[{ on := 2, ground := Go.Ground.data }], guard := none }) (v := ?_) rfl (by kernel_rfl) (by kernel_rfl) (by kernel_rfl) (fun _ _ _ h => h) (Or.inl ⟨by rfl, ?_⟩) (by assumption) ?_
            rotate_left
            · intro w hSw
              (try dsimp only at hSw)
              go_simp
              try with_reducible rfl
            (try simp only [Act.put, List.setIfInBounds_toArray, List.set_cons_zero, List.set_cons_succ])
            refine wpAnyH_take (i := 4) (oi := { dst := some 92, op := Go.Op.load 37 (Go.Operand.tmp 8), type := 37, pos := "law.go:54", after := #[{ on := 3, ground := Go.Ground.guard }], guard := some (3, false) }) (v := ?_) rfl (by kernel_rfl) (by kernel_rfl) (by kernel_rfl) (fun _ _ _ h => h) (Or.inl ⟨by rfl, ?_⟩) (by assumption) ?_
            rotate_left
            · intro w hSw
              (try dsimp only at hSw)
              go_simp
              try with_reducible rfl
            (try simp only [Act.put, List.setIfInBounds_toArray, List.set_cons_zero, List.set_cons_succ])
            refine wpAnyH_take (i := 6) (oi := { dst := some 94, op := Go.Op.load 35 (Go.Operand.tmp 10), type := 35, pos := "law.go:54", after := #[{ on := 3, ground := Go.Ground.guard }], guard := some (3, false) }) (v := ?_) rfl (by kernel_rfl) (by kernel_rfl) (by kernel_rfl) (fun _ _ _ h => h) (Or.inl ⟨by rfl, ?_⟩) (by assumption) ?_
            rotate_left
            · intro w hSw
              (try dsimp only at hSw)
              go_simp
              try with_reducible rfl
            (try simp only [Act.put, List.setIfInBounds_toArray, List.set_cons_zero, List.set_cons_succ])
            refine wpAnyH_ready (rs := [5]) (by kernel_rfl) (by simp) ?_
            refine (AllReadyH.cons (o := { dst := some 93, op := Go.Op.call { callee := Go.Callee.value (Go.Operand.func 21), args := #[Go.Operand.tmp 92], argTypes := #[37] }, type := 35, pos := "law.go:54", after := #[{ on := 4, ground := Go.Ground.data }, { on := 3, ground := Go.Ground.chain }, { on := 3, ground := Go.Ground.guard }], guard := some (3, false) }) rfl (fun K hK => ?_) AllReadyH.nil)
            go_simp
            have l_g5 := H_g5_0.out.1
            have l_g6 := H_g6_0.out.1
            have l_h8 := H_h8_0.out.1
            have l_h10 := H_h10_0.out.1
            have l_W := HB_0.out.size
            refine (HFR.out q T _).mono ?_
            rintro e v1 ⟨rfl, hb⟩
            refine hK.out _ _ ?_ (fun hHeld => ?_)
            · (try dsimp only)
              obtain ⟨q0, q1, q2, q3, q4, q5, q6, q7⟩ := hHeld
              exact ⟨(hb.cell (p := ⟨h8, _, none⟩) (by show h8 < v0.heap.size; omega)).trans q0, (hb.cell (p := ⟨h8, _, none⟩) (by show h8 < v0.heap.size; omega)).trans q1, (hb.cell (p := ⟨h8, _, none⟩) (by show h8 < v0.heap.size; omega)).trans q2, (hb.cell (p := ⟨h8, _, none⟩) (by show h8 < v0.heap.size; omega)).trans q3, (hb.cell (p := ⟨h10, _, none⟩) (by show h10 < v0.heap.size; omega)).trans q4, (hb.cell (p := ⟨h10, _, none⟩) (by show h10 < v0.heap.size; omega)).trans q5, (hb.cell (p := ⟨h10, _, none⟩) (by show h10 < v0.heap.size; omega)).trans q6, (hb.cell (p := ⟨h10, _, none⟩) (by show h10 < v0.heap.size; omega)).trans q7⟩
            clear hK K
            (try simp only [Act.put, List.setIfInBounds_toArray, List.set_cons_zero, List.set_cons_succ])
            have H_g5_1 := Lib.hid (H_g5_0.out.call hb)
            have H_g6_1 := Lib.hid (H_g6_0.out.call hb)
            have H_h8_1 := Lib.hid (H_h8_0.out.call hb)
            have H_h10_1 := Lib.hid (H_h10_0.out.call hb)
            have HB_1 := Lib.hid (HB_0.out.trans (hb.mono HB_0.out.size))
            clear hb
            refine wpAnyH_ready (rs := [7]) (by kernel_rfl) (by simp) ?_
            refine (AllReadyH.cons (o := { dst := some 95, op := Go.Op.call { callee := Go.Callee.value (Go.Operand.func 20), args := #[Go.Operand.tmp 93, Go.Operand.tmp 94], argTypes := #[35, 35] }, type := 4, pos := "law.go:54", after := #[{ on := 5, ground := Go.Ground.data }, { on := 6, ground := Go.Ground.data }, { on := 5, ground := Go.Ground.chain }, { on := 3, ground := Go.Ground.guard }], guard := some (3, false) }) rfl (fun K hK => ?_) AllReadyH.nil)
            go_simp
            have l_g5 := H_g5_1.out.1
            have l_g6 := H_g6_1.out.1
            have l_h8 := H_h8_1.out.1
            have l_h10 := H_h10_1.out.1
            have l_W := HB_1.out.size
            refine (HE2.out _).mono ?_
            rintro e v2 ⟨rfl, hb⟩
            refine hK.out _ _ ?_ (fun hHeld => ?_)
            · (try dsimp only)
              obtain ⟨q0, q1, q2, q3, q4, q5, q6, q7⟩ := hHeld
              exact ⟨(hb.cell (p := ⟨h8, _, none⟩) (by show h8 < v1.heap.size; omega)).trans q0, (hb.cell (p := ⟨h8, _, none⟩) (by show h8 < v1.heap.size; omega)).trans q1, (hb.cell (p := ⟨h8, _, none⟩) (by show h8 < v1.heap.size; omega)).trans q2, (hb.cell (p := ⟨h8, _, none⟩) (by show h8 < v1.heap.size; omega)).trans q3, (hb.cell (p := ⟨h10, _, none⟩) (by show h10 < v1.heap.size; omega)).trans q4, (hb.cell (p := ⟨h10, _, none⟩) (by show h10 < v1.heap.size; omega)).trans q5, (hb.cell (p := ⟨h10, _, none⟩) (by show h10 < v1.heap.size; omega)).trans q6, (hb.cell (p := ⟨h10, _, none⟩) (by show h10 < v1.heap.size; omega)).trans q7⟩
            clear hK K
            (try simp only [Act.put, List.setIfInBounds_toArray, List.set_cons_zero, List.set_cons_succ])
            have H_g5_2 := Lib.hid (H_g5_1.out.call hb)
            have H_g6_2 := Lib.hid (H_g6_1.out.call hb)
            have H_h8_2 := Lib.hid (H_h8_1.out.call hb)
            have H_h10_2 := Lib.hid (H_h10_1.out.call hb)
            have HB_2 := Lib.hid (HB_1.out.trans (hb.mono HB_1.out.size))
            clear hb
            refine wpAnyH_take (i := 8) (oi := { dst := some 96, op := Go.Op.unOp Go.UnOp.not 4 (Go.Operand.tmp 95), type := 4, pos := "law.go:54", after := #[{ on := 7, ground := Go.Ground.data }, { on := 3, ground := Go.Ground.guard }], guard := some (3, false) }) (v := ?_) rfl (by kernel_rfl) (by kernel_rfl) (by kernel_rfl) (fun _ _ _ h => h) (Or.inl ⟨by rfl, ?_⟩) (by assumption) ?_
            rotate_left
            · intro w hSw
              (try dsimp only at hSw)
              go_simp
              try with_reducible rfl
            (try simp only [Act.put, List.setIfInBounds_toArray, List.set_cons_zero, List.set_cons_succ])
            refine wpAnyH_take (i := 9) (oi := { dst := some 97, op := Go.Op.pick (Go.Operand.tmp 91) (Go.Operand.const (Go.Value.bool true)) (Go.Operand.tmp 96), type := 4, pos := "law.go:54", after := #[{ on := 3, ground := Go.Ground.data }, { on := 8, ground := Go.Ground.data }], guard := none }) (v := ?_) rfl (by kernel_rfl) (by kernel_rfl) (by kernel_rfl) (fun _ _ _ h => h) (Or.inl ⟨by rfl, ?_⟩) (by assumption) ?_
            rotate_left
            · intro w hSw
              (try dsimp only at hSw)
              go_simp
              try with_reducible rfl
            (try simp only [Act.put, List.setIfInBounds_toArray, List.set_cons_zero, List.set_cons_succ])
            refine wpAnyH_done (by kernel_rfl) ?_ _
            clear hHeld
            have H_g5 := H_g5_2
            have H_g6 := H_g6_2
            have H_h8 := H_h8_2
            have H_h10 := H_h10_2
            have HB := HB_2
            clear H_g5_0 H_g6_0 H_h8_0 H_h10_0 HB_0
            clear H_g5_1 H_g6_1 H_h8_1 H_h10_1 HB_1
            clear H_g5_2 H_g6_2 H_h8_2 H_h10_2 HB_2
            go_wp2_with fail
            have l_g5 := H_g5.out.1
            have l_g6 := H_g6.out.1
            have l_h8 := H_h8.out.1
            have l_h10 := H_h10.out.1
            have l_W := HB.out.size
            obtain ⟨_, s_h8_0, s_h8_1, s_h8_2, s_h8_3, _⟩ := H_h8.out
            obtain ⟨_, s_h10_0, s_h10_1, s_h10_2, s_h10_3, _⟩ := H_h10.out
            refine wp_region_held_drew (S := fun w' => w'.cell? ⟨h8, 0, none⟩ = some (.float .f64 lv) ∧ w'.cell? ⟨h8, 1, none⟩ = some (.float .f64 mo) ∧ w'.cell? ⟨h8, 2, none⟩ = some (.float .f64 q) ∧ w'.cell? ⟨h8, 3, none⟩ = some (.int .u32 (T : Int)) ∧ w'.cell? ⟨h10, 0, none⟩ = some (.float .f64 lv) ∧ w'.cell? ⟨h10, 1, none⟩ = some (.float .f64 mo) ∧ w'.cell? ⟨h10, 2, none⟩ = some (.float .f64 q) ∧ w'.cell? ⟨h10, 3, none⟩ = some (.int .u32 (T : Int))) (by kernel_rfl) ?_ (fun hHeld => ?_)
            · exact ⟨s_h8_0, s_h8_1, s_h8_2, s_h8_3, s_h10_0, s_h10_1, s_h10_2, s_h10_3⟩
            obtain ⟨v0, hv0⟩ : ∃ w', w' = v2.drew := ⟨_, rfl⟩
            have H_g5_0 : Hid (GAt v0 g5 lv mo y u) := by rw [hv0]; exact H_g5.out
            have H_g6_0 : Hid (GAt v0 g6 lv mo y u) := by rw [hv0]; exact H_g6.out
            have H_h8_0 : Hid (GAt v0 h8 lv mo q T) := by rw [hv0]; exact H_h8.out
            have H_h10_0 : Hid (GAt v0 h10 lv mo q T) := by rw [hv0]; exact H_h10.out
            have HB_0 : Hid (Below W.heap.size W v0) := by rw [hv0]; exact HB.out.drew
            rw [← hv0] at hHeld ⊢
            clear hv0 s_h8_0 s_h8_1 s_h8_2 s_h8_3 s_h10_0 s_h10_1 s_h10_2 s_h10_3
            have l_g5 := H_g5_0.out.1
            have l_g6 := H_g6_0.out.1
            have l_h8 := H_h8_0.out.1
            have l_h10 := H_h10_0.out.1
            have l_W := HB_0.out.size
            obtain ⟨_, p0, p1, p2, p3, pf⟩ := H_g5_0.out
            refine wpAnyH_take (i := 0) (oi := { dst := some 98, op := Go.Op.load 37 (Go.Operand.tmp 8), type := 37, pos := "law.go:57", after := #[], guard := none }) (v := ?_) rfl (by kernel_rfl) (by kernel_rfl) (by kernel_rfl) (fun _ _ _ h => h) (Or.inl ⟨by rfl, ?_⟩) (by assumption) ?_
            rotate_left
            · intro w hSw
              (try dsimp only at hSw)
              go_simp
              try with_reducible rfl
            (try simp only [Act.put, List.setIfInBounds_toArray, List.set_cons_zero, List.set_cons_succ])
            refine wpAnyH_take (i := 1) (oi := { dst := some 99, op := Go.Op.load 35 (Go.Operand.tmp 10), type := 35, pos := "law.go:57", after := #[{ on := 2, ground := Go.Ground.gcOnly Go.Departure.lateStores }], guard := none }) (v := ?_) rfl (by kernel_rfl) (by kernel_rfl) (by kernel_rfl) (fun _ _ _ h => h) (Or.inl ⟨by rfl, ?_⟩) (by assumption) ?_
            rotate_left
            · intro w hSw
              (try dsimp only at hSw)
              go_simp
              try with_reducible rfl
            (try simp only [Act.put, List.setIfInBounds_toArray, List.set_cons_zero, List.set_cons_succ])
            refine wpAnyH_ready (rs := [2]) (by kernel_rfl) (by simp) ?_
            refine (AllReadyH.cons (o := { dst := none, op := Go.Op.store 37 (Go.Operand.tmp 5) (Go.Operand.tmp 98), type := 0, pos := "law.go:57", after := #[{ on := 0, ground := Go.Ground.data }, { on := 0, ground := Go.Ground.phase }, { on := 1, ground := Go.Ground.textOnly Go.Departure.lateStores }], guard := none }) rfl (fun K hK => ?_) AllReadyH.nil)
            go_simp

            refine hK.out _ _ ?_ (fun hHeld => ?_)
            · (try dsimp only)
              exact ⟨(H_h8_0.out.other (show h8 ≠ g5 by omega) lv mo q T).2.1, (H_h8_0.out.other (show h8 ≠ g5 by omega) lv mo q T).2.2.1, (H_h8_0.out.other (show h8 ≠ g5 by omega) lv mo q T).2.2.2.1, (H_h8_0.out.other (show h8 ≠ g5 by omega) lv mo q T).2.2.2.2.1, (H_h10_0.out.other (show h10 ≠ g5 by omega) lv mo q T).2.1, (H_h10_0.out.other (show h10 ≠ g5 by omega) lv mo q T).2.2.1, (H_h10_0.out.other (show h10 ≠ g5 by omega) lv mo q T).2.2.2.1, (H_h10_0.out.other (show h10 ≠ g5 by omega) lv mo q T).2.2.2.2.1⟩
            clear hK K
            (try simp only [Act.put, List.setIfInBounds_toArray, List.set_cons_zero, List.set_cons_succ])
            obtain ⟨v1, hvn⟩ : ∃ w', w' = setG v0 g5 lv mo q T := ⟨_, rfl⟩
            have H_g6_1 : Hid (GAt v1 g6 lv mo y u) := by rw [hvn]; exact H_g6_0.out.other (by omega) _ _ _ _
            have H_h8_1 : Hid (GAt v1 h8 lv mo q T) := by rw [hvn]; exact H_h8_0.out.other (by omega) _ _ _ _
            have H_h10_1 : Hid (GAt v1 h10 lv mo q T) := by rw [hvn]; exact H_h10_0.out.other (by omega) _ _ _ _
            have H_g5_1 : Hid (GAt v1 g5 lv mo q T) := by rw [hvn]; exact H_g5_0.out.set _ _ _ _
            have HB_1 : Hid (Below W.heap.size W v1) := by rw [hvn]; exact setG_below HB_0.out (by omega) _ _ _ _
            unfold setG at hvn
            rw [← hvn] at hHeld ⊢
            clear hvn p0 p1 p2 p3 pf
            have l_g5 := H_g5_1.out.1
            have l_g6 := H_g6_1.out.1
            have l_h8 := H_h8_1.out.1
            have l_h10 := H_h10_1.out.1
            have l_W := HB_1.out.size
            obtain ⟨_, p0, p1, p2, p3, pf⟩ := H_g6_1.out
            refine wpAnyH_ready (rs := [3]) (by kernel_rfl) (by simp) ?_
            refine (AllReadyH.cons (o := { dst := none, op := Go.Op.store 35 (Go.Operand.tmp 6) (Go.Operand.tmp 99), type := 0, pos := "law.go:57", after := #[{ on := 1, ground := Go.Ground.data }, { on := 2, ground := Go.Ground.chain }, { on := 0, ground := Go.Ground.phase }, { on := 1, ground := Go.Ground.phase }, { on := 2, ground := Go.Ground.phase }], guard := none }) rfl (fun K hK => ?_) AllReadyH.nil)
            go_simp

            refine hK.out _ _ ?_ (fun hHeld => ?_)
            · (try dsimp only)
              exact ⟨(H_h8_1.out.other (show h8 ≠ g6 by omega) lv mo q T).2.1, (H_h8_1.out.other (show h8 ≠ g6 by omega) lv mo q T).2.2.1, (H_h8_1.out.other (show h8 ≠ g6 by omega) lv mo q T).2.2.2.1, (H_h8_1.out.other (show h8 ≠ g6 by omega) lv mo q T).2.2.2.2.1, (H_h10_1.out.other (show h10 ≠ g6 by omega) lv mo q T).2.1, (H_h10_1.out.other (show h10 ≠ g6 by omega) lv mo q T).2.2.1, (H_h10_1.out.other (show h10 ≠ g6 by omega) lv mo q T).2.2.2.1, (H_h10_1.out.other (show h10 ≠ g6 by omega) lv mo q T).2.2.2.2.1⟩
            clear hK K
            (try simp only [Act.put, List.setIfInBounds_toArray, List.set_cons_zero, List.set_cons_succ])
            obtain ⟨v2, hvn⟩ : ∃ w', w' = setG v1 g6 lv mo q T := ⟨_, rfl⟩
            have H_g5_2 : Hid (GAt v2 g5 lv mo q T) := by rw [hvn]; exact H_g5_1.out.other (by omega) _ _ _ _
            have H_h8_2 : Hid (GAt v2 h8 lv mo q T) := by rw [hvn]; exact H_h8_1.out.other (by omega) _ _ _ _
            have H_h10_2 : Hid (GAt v2 h10 lv mo q T) := by rw [hvn]; exact H_h10_1.out.other (by omega) _ _ _ _
            have H_g6_2 : Hid (GAt v2 g6 lv mo q T) := by rw [hvn]; exact H_g6_1.out.set _ _ _ _
            have HB_2 : Hid (Below W.heap.size W v2) := by rw [hvn]; exact setG_below HB_1.out (by omega) _ _ _ _
            unfold setG at hvn
            rw [← hvn] at hHeld ⊢
            clear hvn p0 p1 p2 p3 pf
            refine wpAnyH_done (by kernel_rfl) ?_ _
            clear hHeld
            go_wp2
            go_roundw
            case rel => exact ⟨k + 1, q, T, by omega, by go_num, HQ.out, HTL.out, H_g5_2, H_g6_2, HB_2⟩
            case measure => simp [intOf]; omega
      · have hfin := HNN.out k hk hlt
        rcases hfin with hfin | hfin
        · have hf : ¬ (k : Int) < (n : Int) := by omega
          go_wp2
          go_ret
          exact ⟨rfl, HB.out⟩
        · have hf : ¬ (k : Int) < 200 := by omega
          by_cases hkn : (k : Int) < (n : Int)
          · go_wp2
            go_ret
            exact ⟨rfl, HB.out⟩
          · go_wp2
            go_ret
            exact ⟨rfl, HB.out⟩

set_option maxRecDepth 100000 in
/-- What the walk gives, for every argument: the row's own words. -/
theorem contract (H : Type) (enc : TypeId × Value → H) (W : World) (base : Nat) (args : Array Value) (ds gs : List (DataW H)) (before : List MemPlace)
    (hval : ∀ (j : Nat) t v, Try.f5.params[j]? = some t → args[j]? = some v → Value.okWide Try.prog W .any base t v)
    (hW : DataW.Whole enc Try.prog Try.f5.params.toList Rows.gaugePlaysSpec.vars false W args.toList ds gs before) :
    Calls Try.prog 5 args W fun e W' => ∃ v, e = .returned v ∧ Rows.gaugePlaysSpec.post enc Try.prog Try.f5 false true false false W args v W' := by
  have hW' := hW
  obtain ⟨p, q, hA0, hV, rfl, hfz, hnd⟩ := hW
  have hA : DataW.TrodAll enc Try.prog W 0 (fun _ => true) true Try.f5.params.toList args.toList ds p := hA0
  rw [Try.params5] at hA hval
  obtain ⟨v0, vs0, d0, ds0, p0, q0, hargs, rfl, rfl, h0, r0⟩ := trodAll_cons hA
  obtain ⟨v1, vs1, d1, ds1, p1, q1, rfl, rfl, rfl, h1, r1⟩ := trodAll_cons r0
  obtain ⟨rfl, rfl, rfl⟩ := trodAll_nil r1
  obtain rfl : args = #[v0, v1] := by cases args; simp_all
  obtain ⟨a0, m0, rr0, k0, rfl, b0, bm0, br0, bk0⟩ := open_gauge Try.underlying35 (t0 := 22) (t1 := 22) (t2 := 22) (t3 := 33) (by kernel_rfl) (by kernel_rfl) (by kernel_rfl) (by kernel_rfl) (by kernel_rfl) (by kernel_rfl) (hval 0 35 v0 rfl rfl) h0
  obtain ⟨l1, b1, c1⟩ := open_u32s Try.underlying36 Try.underlying33 (by kernel_rfl) (hval 1 36 v1 rfl rfl) h1
  refine (walk W a0 m0 rr0 k0 b0 bm0 br0 bk0 v1 l1 b1 c1).mono fun e W' ⟨he, hb⟩ => ?_
  subst he
  exact close_true (by kernel_rfl) Try.underlying4 (by kernel_rfl) (by kernel_rfl) rfl rfl hW' hb

set_option maxRecDepth 100000 in
theorem lifted (os : Os) (started : os.Started) (H : Type) (enc : TypeId × Value → H) :
    ReturnsInHanded {} Try.checked os 5 .any (Rows.gaugePlaysSpec.pre6 enc Try.prog Try.f5 Rows.gaugePlaysRow.domain false) (Rows.gaugePlaysSpec.post enc Try.prog Try.f5 false true false false) := by
  refine returnsInHanded_of_change (C := Try.checked) own started (by kernel_rfl) Try.func5
    (ChangeSpec.witness6 (enc := enc) (C := Try.checked) false ⟨#[], #[.agg #[.float .f64 0, .float .f64 0, .float .f64 0, .int .u32 0], .slice none 0 0], []⟩ 8 (by kernel_rfl) (by kernel_rfl) (by kernel_rfl) (by kernel_rfl)) ?_
  intro W base args ds gs before hval hW _ _
  exact contract H enc W base args ds gs before hval hW

theorem proved : Rows.GaugePlaysSaid :=
  OpenClaim.holds_of_wide 5 Try.f5 rfl rfl rfl rfl rfl rfl rfl ⟨rfl, rfl, rfl, rfl, rfl⟩ rfl rfl rfl rfl rfl (by kernel_rfl) Try.func5 (by kernel_rfl)
    (of_decide_eq_true (by kernel_rfl)) (by unfold Func.isWrapper; first | (rw [if_pos (by decide +kernel)]; kernel_rfl) | (rw [if_neg (by decide +kernel)]; exact ⟨rfl, rfl⟩))
    (fun os started H enc _ => lifted os started H enc)
#print axioms proved
end Go.Proofs.Ytdgjgddobjhekaa.gaugePlays
