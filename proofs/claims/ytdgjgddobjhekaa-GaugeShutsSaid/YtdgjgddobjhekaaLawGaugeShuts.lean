/-
  A gauge that isn't open, and whose level isn't above nought, lets no more come than it has room for, however late it is. No condition.
-/
import Derived.Test.YtdgjgddobjhekaaRows
import Derived.Test.YtdgjgddobjhekaaGaugeY
import Derived.Test.YtdgjgddobjhekaaBase
import Derived.Test.YtdgjgddobjhekaaWords
import Derived.Test.YtdgjgddobjhekaaOpenGa
import Derived.Deep.RegionHeld3
import Derived.WalkKit
import Derived.ProofKit
import Derived.OpenShut
namespace Go.Proofs.Ytdgjgddobjhekaa.gaugeShuts
open Go.ChangeShapes Go.WideShapes Go.ChangeAt Go.RowKit
open Go.ChangeMaps (open_string)
set_option linter.unusedVariables false

theorem own : ownKnob Try.prog.godebug = none := by kernel_rfl
theorem open_f64 {H : Type} {enc : TypeId × Value → H} {P : Program} {w : World} {base : Nat} {spare : Nat → Bool} {held : Bool} {r : Reach} {b0 : Nat} {t : TypeId} {v : Value} {d : DataW H} {ps : List MemPlace} (ht : P.underlying t = some (.float .f64)) (hval : Value.okWide P w r b0 t v) (hd : DataW.Trod enc P w base spare held t v d ps) :
    ∃ n : Nat, v = .float .f64 n ∧ n < 18446744073709551616 := by
  obtain ⟨n, rfl, _, _, hw⟩ := open_float ht hval hd
  refine ⟨n, rfl, ?_⟩
  have : decide (n < 2 ^ 64) = true := hw
  have := of_decide_eq_true this
  omega
theorem frozen_alloc {w : World} {b : Nat} (h : ∀ o, w.frozen? ⟨b, o, none⟩ = false) (hb : b < w.heap.size) (obj : Obj) (o : Nat) : (w.alloc obj).frozen? ⟨b, o, none⟩ = false := by
  have := (bcell ((Below.refl w.heap.size w).alloc (Nat.le_refl _) obj)).2 b o hb
  rw [this]; exact h o
theorem not_above {x : Nat} (h : ltW 0 x = false) (hn : nanW x = false) : sgnW x = true ∨ rungW x = 0 := by
  rcases Nat.eq_zero_or_pos (rungW x) with h0 | h0
  · exact .inr h0
  · left
    cases hs : sgnW x
    · exfalso
      unfold ltW at h
      rw [hn, hs, show nanW 0 = false by decide, show sgnW 0 = false from sgn_zero, show rungW 0 = 0 from rung_zero] at h
      have := valN_lt h0
      rw [valN_zero] at this
      unfold valZ at h
      rw [valN_zero] at h
      simp at h
      omega
    · rfl
theorem low_open {x : Nat} (h : ltW 0 x = false) (hn : nanW x = false) : openW x = false := by
  unfold openW kindW
  rw [hn]
  simp only [Bool.false_eq_true, if_false]
  by_cases hi : rungW x = 9218868437227405312
  · rw [if_pos hi]
    have hs : sgnW x = true := by
      rcases not_above h hn with h1 | h1
      · exact h1
      · omega
    rw [hs]; rfl
  · rw [if_neg hi]
    split
    · split <;> rfl
    · rfl

set_option maxRecDepth 20000 in
set_option maxHeartbeats 25600000 in
theorem walk (W : World) (a0 : Nat) (b0 : a0 < 18446744073709551616) (a1 : Nat) (b1 : a1 < 256) (a2 : Value) (l2 : List Nat) (b2 : Sl W W.heap.size 1 a2 l2.length (uv l2)) (c2 : ∀ x ∈ l2, x < 4294967296) :
    Calls Try.prog 6 #[.float .f64 a0, .int .u8 (a1 : Int), a2] W (Says (.bool true) W) := by
  have hst := st_float
  obtain ⟨lv, hlv⟩ : ∃ lv, lv = a0 := ⟨_, rfl⟩
  have hgt : (FloatKind.f64.format.order a0 0 == some .gt) = ltW 0 a0 := gt_bits a0 0
  have hnn : (FloatKind.f64.format.order a0 a0 != some .eq) = nanW a0 := self_bits a0
  have HTOLD := Lib.hid told05
  obtain ⟨mo, hmo⟩ : ∃ mo, fN a1 = mo := ⟨_, rfl⟩
  have hnew := fun W => gauge_New lv mo 0 W
  rw [show ((0 : Nat) : Int) = 0 from rfl] at hnew
  rw [hlv] at hnew
  have HNEW := Lib.hid hnew
  clear hnew
  have HMO : Hid (mo = fN a1) := hmo.symm
  change floatOfInt .f64 (a1 : Int) = mo at hmo
  rcases (show ltW 0 a0 = true ∨ (ltW 0 a0 = false ∧ nanW a0 = true) ∨ (ltW 0 a0 = false ∧ nanW a0 = false) by cases ltW 0 a0 <;> cases nanW a0 <;> simp) with hx | ⟨hx, hy⟩ | ⟨hx, hy⟩
  · rw [hx] at hgt
    clear hnn b2 c2 hlv
    go_enter Try.func6, Try.ntmps6
    go_wp2_with fail
    refine (HNEW.out _).mono ?_
    rintro e w1 ⟨rfl, hb⟩
    obtain ⟨g, hg⟩ : ∃ g, g = w1.heap.size := ⟨_, rfl⟩
    have HGL : Hid (W.heap.size ≤ g) := by rw [hg]; exact hb.size
    have hgw := HGL.out
    obtain ⟨w2, hw2⟩ : ∃ w2, w2 = w1.alloc (.cells #[.float .f64 a0, .float .f64 mo, .float .f64 mo, .int .u32 0] 37) := ⟨_, rfl⟩
    have HG0 : Hid (GAt w2 g a0 mo mo 0) := by rw [hw2, hg]; exact GAt.new
    have HB0 : Hid (Below W.heap.size W w2) := by rw [hw2]; exact hb.alloc hb.size _
    clear hb
    go_wp2_with fail
    rw [← hw2]
    (try rw [← hg])
    clear hw2 hg
    refine (HTOLD.out _).mono ?_
    rintro e w3 ⟨rfl, hb⟩
    have HG3 := Lib.hid (HG0.out.call hb)
    have HB3 := Lib.hid (HB0.out.trans (hb.mono HB0.out.size))
    clear hb
    go_wp2_with fail
    refine (HTOLD.out _).mono ?_
    rintro e w4 ⟨rfl, hb⟩
    have HB4 := Lib.hid (HB3.out.trans (hb.mono HB3.out.size))
    clear hb
    go_wp2
    go_ret
    exact ⟨rfl, HB4.out⟩
  · rw [hx] at hgt
    rw [hy] at hnn
    clear b2 c2 hlv
    go_enter Try.func6, Try.ntmps6
    go_wp2_with fail
    refine (HNEW.out _).mono ?_
    rintro e w1 ⟨rfl, hb⟩
    obtain ⟨g, hg⟩ : ∃ g, g = w1.heap.size := ⟨_, rfl⟩
    have HGL : Hid (W.heap.size ≤ g) := by rw [hg]; exact hb.size
    have hgw := HGL.out
    obtain ⟨w2, hw2⟩ : ∃ w2, w2 = w1.alloc (.cells #[.float .f64 a0, .float .f64 mo, .float .f64 mo, .int .u32 0] 37) := ⟨_, rfl⟩
    have HG0 : Hid (GAt w2 g a0 mo mo 0) := by rw [hw2, hg]; exact GAt.new
    have HB0 : Hid (Below W.heap.size W w2) := by rw [hw2]; exact hb.alloc hb.size _
    clear hb
    go_wp2_with fail
    rw [← hw2]
    (try rw [← hg])
    clear hw2 hg
    refine (HTOLD.out _).mono ?_
    rintro e w3 ⟨rfl, hb⟩
    have HG3 := Lib.hid (HG0.out.call hb)
    have HB3 := Lib.hid (HB0.out.trans (hb.mono HB0.out.size))
    clear hb
    go_wp2_with fail
    refine (HTOLD.out _).mono ?_
    rintro e w4 ⟨rfl, hb⟩
    have HB4 := Lib.hid (HB3.out.trans (hb.mono HB3.out.size))
    clear hb
    go_wp2
    go_ret
    exact ⟨rfl, HB4.out⟩
  · rw [hx] at hgt
    rw [hy] at hnn
    have HSG : Hid (sgnW a0 = true ∨ rungW a0 = 0) := not_above hx hy
    have HNA : Hid (nanW a0 = false) := hy
    have HLO : Hid (openW a0 = false) := low_open hx hy
    have HLV : Hid (a0 < 18446744073709551616) := b0
    subst hlv
    obtain ⟨A, cap, rfl, h1, h2⟩ := b2.form
    unfold maxLen at h2
    obtain ⟨n, hn⟩ : ∃ n, n = l2.length := ⟨_, rfl⟩
    rw [← hn] at b2 h1 ⊢
    have HTK : Hid (0 < n → ∃ b off, A = some ⟨b, off, none⟩ ∧ b < W.heap.size ∧ ∀ i, i < n → W.cell? ⟨b, off + i, none⟩ = some (.int .u32 (l2.getD i 0 : Nat))) := fun hp => by
      obtain ⟨b, off, cap', hv, _, _, hbb, _, hc⟩ := b2.wordAt hp
      injection hv with q1 q2 q3
      exact ⟨b, off, q1, hbb, fun i hi => hc i hi⟩
    have HL2 : Hid (∀ i, l2.getD i 0 < 4294967296) := fun i => word_lt c2 i
    have HM1 : Hid (a1 < 256) := b1
    have HMI : Hid (mo < 9218868437227405312) := by have h := HMO.out; rw [h]; exact fN_lt (by omega)
    obtain ⟨K, hK⟩ : ∃ K, K = min n 300 := ⟨_, rfl⟩
    have hK1 : K ≤ n := by omega
    have hK2 : K ≤ 300 := by omega
    have HNN : Hid (∀ k, k ≤ K → ¬ k < K → (n ≤ k ∨ 300 ≤ k)) := fun k a b => by omega
    clear b2 c2 hx hy hK hn b0
    go_enter Try.func6, Try.ntmps6
    go_wp2_with fail
    refine (HNEW.out _).mono ?_
    rintro e w1 ⟨rfl, hb⟩
    obtain ⟨g, hg⟩ : ∃ g, g = w1.heap.size := ⟨_, rfl⟩
    have HGL : Hid (W.heap.size ≤ g) := by rw [hg]; exact hb.size
    have hgw := HGL.out
    obtain ⟨w2, hw2⟩ : ∃ w2, w2 = w1.alloc (.cells #[.float .f64 lv, .float .f64 mo, .float .f64 mo, .int .u32 0] 37) := ⟨_, rfl⟩
    have HG0 : Hid (GAt w2 g lv mo mo 0) := by rw [hw2, hg]; exact GAt.new
    have HB0 : Hid (Below W.heap.size W w2) := by rw [hw2]; exact hb.alloc hb.size _
    clear hb
    go_wp2_with fail
    rw [← hw2]
    (try rw [← hg])
    clear hw2 hg
    refine (HTOLD.out _).mono ?_
    rintro e w3 ⟨rfl, hb⟩
    have HG3 := Lib.hid (HG0.out.call hb)
    have HB3 := Lib.hid (HB0.out.trans (hb.mono HB0.out.size))
    clear hb
    go_wp2
    go_loopw [8, 9] (fun cn i wr => ∃ k c x t : Nat, k ≤ K ∧ i = .int .i64 k ∧ cn = .int .i64 c ∧ t < 4294967296 ∧ c ≤ a1 ∧ Hid (x ≤ fN (a1 - c)) ∧ Hid (GAt wr g lv mo x t) ∧ Hid (Below W.heap.size W wr)) (fun _ i _ => K - (intOf i).toNat)
    case atStart => exact ⟨0, 0, mo, 0, by omega, rfl, rfl, by omega, by omega, (by rw [Nat.sub_zero, ← HMO.out]; exact Nat.le_refl _), HG3, HB3⟩
    case round =>
      obtain ⟨k, c, x, t, hk, rfl, rfl, ht, hca, HX, HG, HB⟩ := hrel
      by_cases hlt : k < K
      · obtain ⟨b, off, rfl, hb0, hcell⟩ := HTK.out (by omega)
        obtain ⟨hgl, c0, c1, c2, c3, _⟩ := HG.out
        have hWw := HB.out.size
        obtain ⟨T, hT⟩ : ∃ T, T = l2.getD k 0 := ⟨_, rfl⟩
        have HTL : Hid (T < 4294967296) := by rw [hT]; exact HL2.out k
        have c4 : wr.cell? ⟨b, off + k, none⟩ = some (.int .u32 (T : Int)) := by rw [hT]; exact (HB.out.cell (p := ⟨b, off + k, none⟩) (by show b < _; omega)).trans (hcell k (by omega))
        clear hT hcell
        have g0 : (0 : Int) ≤ (k : Int) := Int.natCast_nonneg _
        have g1 : (k : Int) < (n : Int) := by omega
        have g2 : (k : Int) < 300 := by omega
        have hc256 : (c : Int) ≤ 255 := by have := HM1.out; omega
        obtain ⟨r, hr⟩ : ∃ r, roomW lv mo x (ageN T t) = r := ⟨_, rfl⟩
        have hxl : x < 9218868437227405312 := by have h1 := HX.out; have h2 := fN_lt (k := a1 - c) (by have := HM1.out; omega); omega
        have hrx : r ≤ x := by
          rw [← hr]
          exact room_low (Nat.lt_of_lt_of_le (ageN_lt T t) (by decide)) HNA.out HSG.out hxl HMI.out
        have HRA : Hid (r ≤ fN (a1 - c)) := Nat.le_trans hrx HX.out
        clear hxl hrx
        cases hge : geB r
        · have HT := Lib.hid fun W => gauge_Take_no lv mo x t T HLV.out ht HTL.out HLO.out hr hge W
          unfold gV at HT
          clear hr hge HX
          go_wp2_with fail
          refine wp_region_held_drew (S := fun w' => w'.cell? ⟨g, 0, none⟩ = some (.float .f64 lv) ∧ w'.cell? ⟨g, 1, none⟩ = some (.float .f64 mo) ∧ w'.cell? ⟨g, 2, none⟩ = some (.float .f64 x) ∧ w'.cell? ⟨g, 3, none⟩ = some (.int .u32 (t : Int)) ∧ w'.cell? ⟨b, off + k, none⟩ = some (.int .u32 (T : Int))) (by kernel_rfl) ?_ (fun hHeld => ?_)
          · exact ⟨c0, c1, c2, c3, c4⟩
          refine wpAnyH_take (i := 0) (oi := { dst := some 39, op := Go.Op.load 37 (Go.Operand.tmp 7), type := 37, pos := "law.go:70", after := #[], guard := none }) (v := ?_) rfl (by kernel_rfl) (by kernel_rfl) (by kernel_rfl) (fun _ _ _ h => h) (Or.inl ⟨by rfl, ?_⟩) (by assumption) ?_
          rotate_left
          · intro w hSw
            (try dsimp only at hSw)
            go_simp
            try with_reducible rfl
          (try simp only [Act.put, List.setIfInBounds_toArray, List.set_cons_zero, List.set_cons_succ])
          refine wpAnyH_take (i := 1) (oi := { dst := some 40, op := Go.Op.move (Go.Operand.tmp 2), type := 36, pos := "law.go:70", after := #[], guard := none }) (v := ?_) rfl (by kernel_rfl) (by kernel_rfl) (by kernel_rfl) (fun _ _ _ h => h) (Or.inl ⟨by rfl, ?_⟩) (by assumption) ?_
          rotate_left
          · intro w hSw
            (try dsimp only at hSw)
            go_simp
            try with_reducible rfl
          (try simp only [Act.put, List.setIfInBounds_toArray, List.set_cons_zero, List.set_cons_succ])
          refine wpAnyH_take (i := 2) (oi := { dst := some 41, op := Go.Op.move (Go.Operand.tmp 9), type := 3, pos := "law.go:70", after := #[], guard := none }) (v := ?_) rfl (by kernel_rfl) (by kernel_rfl) (by kernel_rfl) (fun _ _ _ h => h) (Or.inl ⟨by rfl, ?_⟩) (by assumption) ?_
          rotate_left
          · intro w hSw
            (try dsimp only at hSw)
            go_simp
            try with_reducible rfl
          (try simp only [Act.put, List.setIfInBounds_toArray, List.set_cons_zero, List.set_cons_succ])
          refine wpAnyH_take (i := 3) (oi := { dst := some 42, op := Go.Op.indexAddr 36 (Go.Operand.tmp 40) (Go.Operand.tmp 41), type := 0, pos := "law.go:70", after := #[{ on := 1, ground := Go.Ground.data }, { on := 2, ground := Go.Ground.data }], guard := none }) (v := ?_) rfl (by kernel_rfl) (by kernel_rfl) (by kernel_rfl) (fun _ _ _ h => h) (Or.inl ⟨by rfl, ?_⟩) (by assumption) ?_
          rotate_left
          · intro w hSw
            (try dsimp only at hSw)
            go_simp
            try with_reducible rfl
          (try simp only [Act.put, List.setIfInBounds_toArray, List.set_cons_zero, List.set_cons_succ])
          refine wpAnyH_take (i := 4) (oi := { dst := some 43, op := Go.Op.load 33 (Go.Operand.tmp 42), type := 33, pos := "law.go:70", after := #[{ on := 3, ground := Go.Ground.data }], guard := none }) (v := ?_) rfl (by kernel_rfl) (by kernel_rfl) (by kernel_rfl) (fun _ _ _ h => h) (Or.inl ⟨by rfl, ?_⟩) (by assumption) ?_
          rotate_left
          · intro w hSw
            (try dsimp only at hSw)
            go_simp
            try with_reducible rfl
          (try simp only [Act.put, List.setIfInBounds_toArray, List.set_cons_zero, List.set_cons_succ])
          refine wpAnyH_ready (rs := [5, 9]) (by kernel_rfl) (by simp) ?_
          refine (AllReadyH.cons (o := { dst := some 44, op := Go.Op.call { callee := Go.Callee.value (Go.Operand.func 27), args := #[Go.Operand.tmp 39, Go.Operand.tmp 43], argTypes := #[37, 33] }, type := 46, pos := "law.go:70", after := #[{ on := 0, ground := Go.Ground.data }, { on := 4, ground := Go.Ground.data }], guard := none }) rfl (fun K hK => ?_) (AllReadyH.cons (o := { dst := some 10, op := Go.Op.alloc 37, type := 0, pos := "law.go:70", after := #[], guard := none }) rfl (fun K hK => ?_) AllReadyH.nil))
          · go_simp
            refine ((HT).out _).mono ?_
            rintro e w1 ⟨rfl, hb⟩
            have hbd : Below wr.heap.size wr w1 := ((Below.refl wr.heap.size wr).drew).trans hb
            refine hK.out _ _ ?_ (fun hHeld => ?_)
            · (try dsimp only)
              obtain ⟨c0, c1, c2, c3, c4⟩ := hHeld
              exact ⟨(hb.cell (p := ⟨g, _, none⟩) (by show g < wr.heap.size; omega)).trans c0, (hb.cell (p := ⟨g, _, none⟩) (by show g < wr.heap.size; omega)).trans c1, (hb.cell (p := ⟨g, _, none⟩) (by show g < wr.heap.size; omega)).trans c2, (hb.cell (p := ⟨g, _, none⟩) (by show g < wr.heap.size; omega)).trans c3, (hb.cell (p := ⟨b, _, none⟩) (by show b < wr.heap.size; omega)).trans c4⟩
            clear hK K
            (try simp only [Act.put, List.setIfInBounds_toArray, List.set_cons_zero, List.set_cons_succ])
            refine wpAnyH_take (i := 6) (oi := { dst := some 38, op := Go.Op.move (Go.Operand.tmp 44), type := 46, pos := "law.go:70", after := #[{ on := 5, ground := Go.Ground.data }], guard := none }) (v := ?_) rfl (by kernel_rfl) (by kernel_rfl) (by kernel_rfl) (fun _ _ _ h => h) (Or.inl ⟨by rfl, ?_⟩) (by assumption) ?_
            rotate_left
            · intro w hSw
              (try dsimp only at hSw)
              go_simp
              try with_reducible rfl
            (try simp only [Act.put, List.setIfInBounds_toArray, List.set_cons_zero, List.set_cons_succ])
            refine wpAnyH_take (i := 7) (oi := { dst := some 45, op := Go.Op.extract (Go.Operand.tmp 38) 0, type := 37, pos := "law.go:70", after := #[{ on := 6, ground := Go.Ground.data }], guard := none }) (v := ?_) rfl (by kernel_rfl) (by kernel_rfl) (by kernel_rfl) (fun _ _ _ h => h) (Or.inl ⟨by rfl, ?_⟩) (by assumption) ?_
            rotate_left
            · intro w hSw
              (try dsimp only at hSw)
              go_simp
              try with_reducible rfl
            (try simp only [Act.put, List.setIfInBounds_toArray, List.set_cons_zero, List.set_cons_succ])
            refine wpAnyH_take (i := 8) (oi := { dst := some 46, op := Go.Op.extract (Go.Operand.tmp 38) 1, type := 4, pos := "law.go:70", after := #[{ on := 6, ground := Go.Ground.data }, { on := 10, ground := Go.Ground.gcOnly Go.Departure.lateStores }], guard := none }) (v := ?_) rfl (by kernel_rfl) (by kernel_rfl) (by kernel_rfl) (fun _ _ _ h => h) (Or.inl ⟨by rfl, ?_⟩) (by assumption) ?_
            rotate_left
            · intro w hSw
              (try dsimp only at hSw)
              go_simp
              try with_reducible rfl
            (try simp only [Act.put, List.setIfInBounds_toArray, List.set_cons_zero, List.set_cons_succ])
            refine wpAnyH_ready (rs := [9]) (by kernel_rfl) (by simp) ?_
            refine (AllReadyH.cons (o := { dst := some 10, op := Go.Op.alloc 37, type := 0, pos := "law.go:70", after := #[], guard := none }) rfl (fun K hK => ?_) AllReadyH.nil)
            go_simp

            refine hK.out _ _ ?_ (fun hHeld => ?_)
            · (try dsimp only)
              obtain ⟨c0, c1, c2, c3, c4⟩ := hHeld
              exact ⟨(World.cell?_alloc_lt _ _ _ (by show g < w1.heap.size; have := hbd.size; omega)).trans c0, (World.cell?_alloc_lt _ _ _ (by show g < w1.heap.size; have := hbd.size; omega)).trans c1, (World.cell?_alloc_lt _ _ _ (by show g < w1.heap.size; have := hbd.size; omega)).trans c2, (World.cell?_alloc_lt _ _ _ (by show g < w1.heap.size; have := hbd.size; omega)).trans c3, (World.cell?_alloc_lt _ _ _ (by show b < w1.heap.size; have := hbd.size; omega)).trans c4⟩
            clear hK K
            (try simp only [Act.put, List.setIfInBounds_toArray, List.set_cons_zero, List.set_cons_succ])
            refine wpAnyH_ready (rs := [10]) (by kernel_rfl) (by simp) ?_
            refine (AllReadyH.cons (o := { dst := none, op := Go.Op.store 37 (Go.Operand.tmp 10) (Go.Operand.tmp 45), type := 0, pos := "law.go:70", after := #[{ on := 9, ground := Go.Ground.data }, { on := 7, ground := Go.Ground.data }, { on := 5, ground := Go.Ground.chain }, { on := 0, ground := Go.Ground.phase }, { on := 1, ground := Go.Ground.phase }, { on := 2, ground := Go.Ground.phase }, { on := 3, ground := Go.Ground.phase }, { on := 4, ground := Go.Ground.phase }, { on := 5, ground := Go.Ground.phase }, { on := 6, ground := Go.Ground.phase }, { on := 7, ground := Go.Ground.phase }, { on := 8, ground := Go.Ground.textOnly Go.Departure.lateStores }, { on := 9, ground := Go.Ground.phase }], guard := none }) rfl (fun K hK => ?_) AllReadyH.nil)
            go_simp

            refine hK.out _ _ ?_ (fun hHeld => ?_)
            · (try dsimp only)
              obtain ⟨_, u0, u1, u2, u3, _⟩ := HG.out.call hbd
              have hs1 := hbd.size
              exact ⟨(World.cell?_alloc_lt _ _ _ (by show g < w1.heap.size; omega)).trans u0, (World.cell?_alloc_lt _ _ _ (by show g < w1.heap.size; omega)).trans u1, (World.cell?_alloc_lt _ _ _ (by show g < w1.heap.size; omega)).trans u2, (World.cell?_alloc_lt _ _ _ (by show g < w1.heap.size; omega)).trans u3, (World.cell?_alloc_lt _ _ _ (by show b < w1.heap.size; omega)).trans ((hbd.cell (p := ⟨b, off + k, none⟩) (by show b < wr.heap.size; omega)).trans c4)⟩
            clear hK K
            (try simp only [Act.put, List.setIfInBounds_toArray, List.set_cons_zero, List.set_cons_succ])
            refine wpAnyH_take (i := 11) (oi := { dst := some 11, op := Go.Op.assign (Go.Operand.tmp 46), type := 4, pos := "law.go:70", after := #[{ on := 8, ground := Go.Ground.data }, { on := 10, ground := Go.Ground.chain }, { on := 0, ground := Go.Ground.phase }, { on := 1, ground := Go.Ground.phase }, { on := 2, ground := Go.Ground.phase }, { on := 3, ground := Go.Ground.phase }, { on := 4, ground := Go.Ground.phase }, { on := 5, ground := Go.Ground.phase }, { on := 6, ground := Go.Ground.phase }, { on := 7, ground := Go.Ground.phase }, { on := 8, ground := Go.Ground.phase }, { on := 9, ground := Go.Ground.phase }, { on := 10, ground := Go.Ground.phase }], guard := none }) (v := ?_) rfl (by kernel_rfl) (by kernel_rfl) (by kernel_rfl) (fun _ _ _ h => h) (Or.inl ⟨by rfl, ?_⟩) (by assumption) ?_
            rotate_left
            · intro w hSw
              (try dsimp only at hSw)
              go_simp
              try with_reducible rfl
            (try simp only [Act.put, List.setIfInBounds_toArray, List.set_cons_zero, List.set_cons_succ])
            refine wpAnyH_done (by kernel_rfl) ?_ _
            obtain ⟨w2, hw2⟩ : ∃ w2, w2 = w1.alloc (.cells #[.float .f64 lv, .float .f64 mo, .float .f64 r, .int .u32 (T : Int)] 37) := ⟨_, rfl⟩
            have hzz := hbd.size
            have HG1 : Hid (GAt w2 g lv mo x t) := by rw [hw2]; exact (HG.out.call hbd).alloc _
            have HB1 : Hid (Below W.heap.size W w2) := by rw [hw2]; exact (HB.out.trans (hbd.mono HB.out.size)).alloc (by have := HB.out.size; omega) _
            obtain ⟨h, hh⟩ : ∃ h, h = w1.heap.size := ⟨_, rfl⟩
            have HH1 : Hid (GAt w2 h lv mo r T) := by rw [hw2, hh]; exact GAt.new
            have hne : g ≠ h := by rw [hh]; omega
            try rw [← hh]
            rw [← hw2]
            clear hw2 hh hbd hb hHeld
            obtain ⟨hg2, k0, k1, k2, k3, kf⟩ := HG1.out
            obtain ⟨hh2, j0, j1, j2, j3, jf⟩ := HH1.out
            clear HG HB hgl c0 c1 c2 c3 c4
            go_wp2
            go_roundw
            case rel =>
              exact ⟨k + 1, c, r, T, by omega, by go_num, by first | go_num | rfl, HTL.out, by omega, HRA, HG1.out.set _ _ _ _, setG_below HB1.out HGL.out _ _ _ _⟩
            case measure => simp [intOf]; omega
          · go_simp

            refine hK.out _ _ ?_ (fun hHeld => ?_)
            · (try dsimp only)
              obtain ⟨c0, c1, c2, c3, c4⟩ := hHeld
              exact ⟨(World.cell?_alloc_lt _ _ _ (by show g < wr.heap.size; omega)).trans c0, (World.cell?_alloc_lt _ _ _ (by show g < wr.heap.size; omega)).trans c1, (World.cell?_alloc_lt _ _ _ (by show g < wr.heap.size; omega)).trans c2, (World.cell?_alloc_lt _ _ _ (by show g < wr.heap.size; omega)).trans c3, (World.cell?_alloc_lt _ _ _ (by show b < wr.heap.size; omega)).trans c4⟩
            clear hK K
            (try simp only [Act.put, List.setIfInBounds_toArray, List.set_cons_zero, List.set_cons_succ])
            refine wpAnyH_ready (rs := [5]) (by kernel_rfl) (by simp) ?_
            refine (AllReadyH.cons (o := { dst := some 44, op := Go.Op.call { callee := Go.Callee.value (Go.Operand.func 27), args := #[Go.Operand.tmp 39, Go.Operand.tmp 43], argTypes := #[37, 33] }, type := 46, pos := "law.go:70", after := #[{ on := 0, ground := Go.Ground.data }, { on := 4, ground := Go.Ground.data }], guard := none }) rfl (fun K hK => ?_) AllReadyH.nil)
            go_simp
            refine ((HT).out _).mono ?_
            rintro e w1 ⟨rfl, hb⟩
            have hbd : Below (wr.alloc (.cells #[.float .f64 0, .float .f64 0, .float .f64 0, .int .u32 0] 37)).heap.size (wr.alloc (.cells #[.float .f64 0, .float .f64 0, .float .f64 0, .int .u32 0] 37)) w1 := ((Below.refl (wr.alloc (.cells #[.float .f64 0, .float .f64 0, .float .f64 0, .int .u32 0] 37)).heap.size (wr.alloc (.cells #[.float .f64 0, .float .f64 0, .float .f64 0, .int .u32 0] 37))).drew).trans hb
            have HGn : Hid (GAt w1 wr.heap.size 0 0 0 0) := GAt.call GAt.new hbd
            obtain ⟨_, n0, n1, n2, n3, nf⟩ := HGn.out
            refine hK.out _ _ ?_ (fun hHeld => ?_)
            · (try dsimp only)
              obtain ⟨c0, c1, c2, c3, c4⟩ := hHeld
              exact ⟨(hb.cell (p := ⟨g, _, none⟩) (by show g < (wr.alloc _).heap.size; simp; omega)).trans c0, (hb.cell (p := ⟨g, _, none⟩) (by show g < (wr.alloc _).heap.size; simp; omega)).trans c1, (hb.cell (p := ⟨g, _, none⟩) (by show g < (wr.alloc _).heap.size; simp; omega)).trans c2, (hb.cell (p := ⟨g, _, none⟩) (by show g < (wr.alloc _).heap.size; simp; omega)).trans c3, (hb.cell (p := ⟨b, _, none⟩) (by show b < (wr.alloc _).heap.size; simp; omega)).trans c4⟩
            clear hK K
            (try simp only [Act.put, List.setIfInBounds_toArray, List.set_cons_zero, List.set_cons_succ])
            refine wpAnyH_take (i := 6) (oi := { dst := some 38, op := Go.Op.move (Go.Operand.tmp 44), type := 46, pos := "law.go:70", after := #[{ on := 5, ground := Go.Ground.data }], guard := none }) (v := ?_) rfl (by kernel_rfl) (by kernel_rfl) (by kernel_rfl) (fun _ _ _ h => h) (Or.inl ⟨by rfl, ?_⟩) (by assumption) ?_
            rotate_left
            · intro w hSw
              (try dsimp only at hSw)
              go_simp
              try with_reducible rfl
            (try simp only [Act.put, List.setIfInBounds_toArray, List.set_cons_zero, List.set_cons_succ])
            refine wpAnyH_take (i := 7) (oi := { dst := some 45, op := Go.Op.extract (Go.Operand.tmp 38) 0, type := 37, pos := "law.go:70", after := #[{ on := 6, ground := Go.Ground.data }], guard := none }) (v := ?_) rfl (by kernel_rfl) (by kernel_rfl) (by kernel_rfl) (fun _ _ _ h => h) (Or.inl ⟨by rfl, ?_⟩) (by assumption) ?_
            rotate_left
            · intro w hSw
              (try dsimp only at hSw)
              go_simp
              try with_reducible rfl
            (try simp only [Act.put, List.setIfInBounds_toArray, List.set_cons_zero, List.set_cons_succ])
            refine wpAnyH_take (i := 8) (oi := { dst := some 46, op := Go.Op.extract (Go.Operand.tmp 38) 1, type := 4, pos := "law.go:70", after := #[{ on := 6, ground := Go.Ground.data }, { on := 10, ground := Go.Ground.gcOnly Go.Departure.lateStores }], guard := none }) (v := ?_) rfl (by kernel_rfl) (by kernel_rfl) (by kernel_rfl) (fun _ _ _ h => h) (Or.inl ⟨by rfl, ?_⟩) (by assumption) ?_
            rotate_left
            · intro w hSw
              (try dsimp only at hSw)
              go_simp
              try with_reducible rfl
            (try simp only [Act.put, List.setIfInBounds_toArray, List.set_cons_zero, List.set_cons_succ])
            refine wpAnyH_ready (rs := [10]) (by kernel_rfl) (by simp) ?_
            refine (AllReadyH.cons (o := { dst := none, op := Go.Op.store 37 (Go.Operand.tmp 10) (Go.Operand.tmp 45), type := 0, pos := "law.go:70", after := #[{ on := 9, ground := Go.Ground.data }, { on := 7, ground := Go.Ground.data }, { on := 5, ground := Go.Ground.chain }, { on := 0, ground := Go.Ground.phase }, { on := 1, ground := Go.Ground.phase }, { on := 2, ground := Go.Ground.phase }, { on := 3, ground := Go.Ground.phase }, { on := 4, ground := Go.Ground.phase }, { on := 5, ground := Go.Ground.phase }, { on := 6, ground := Go.Ground.phase }, { on := 7, ground := Go.Ground.phase }, { on := 8, ground := Go.Ground.textOnly Go.Departure.lateStores }, { on := 9, ground := Go.Ground.phase }], guard := none }) rfl (fun K hK => ?_) AllReadyH.nil)
            go_simp

            refine hK.out _ _ ?_ (fun hHeld => ?_)
            · (try dsimp only)
              obtain ⟨c0, c1, c2, c3, c4⟩ := hHeld
              exact ⟨((setG_below (Below.refl wr.heap.size w1) (Nat.le_refl _) lv mo r T).cell (p := ⟨g, _, none⟩) (by show g < wr.heap.size; omega)).trans c0, ((setG_below (Below.refl wr.heap.size w1) (Nat.le_refl _) lv mo r T).cell (p := ⟨g, _, none⟩) (by show g < wr.heap.size; omega)).trans c1, ((setG_below (Below.refl wr.heap.size w1) (Nat.le_refl _) lv mo r T).cell (p := ⟨g, _, none⟩) (by show g < wr.heap.size; omega)).trans c2, ((setG_below (Below.refl wr.heap.size w1) (Nat.le_refl _) lv mo r T).cell (p := ⟨g, _, none⟩) (by show g < wr.heap.size; omega)).trans c3, ((setG_below (Below.refl wr.heap.size w1) (Nat.le_refl _) lv mo r T).cell (p := ⟨b, _, none⟩) (by show b < wr.heap.size; omega)).trans c4⟩
            clear hK K
            (try simp only [Act.put, List.setIfInBounds_toArray, List.set_cons_zero, List.set_cons_succ])
            refine wpAnyH_take (i := 11) (oi := { dst := some 11, op := Go.Op.assign (Go.Operand.tmp 46), type := 4, pos := "law.go:70", after := #[{ on := 8, ground := Go.Ground.data }, { on := 10, ground := Go.Ground.chain }, { on := 0, ground := Go.Ground.phase }, { on := 1, ground := Go.Ground.phase }, { on := 2, ground := Go.Ground.phase }, { on := 3, ground := Go.Ground.phase }, { on := 4, ground := Go.Ground.phase }, { on := 5, ground := Go.Ground.phase }, { on := 6, ground := Go.Ground.phase }, { on := 7, ground := Go.Ground.phase }, { on := 8, ground := Go.Ground.phase }, { on := 9, ground := Go.Ground.phase }, { on := 10, ground := Go.Ground.phase }], guard := none }) (v := ?_) rfl (by kernel_rfl) (by kernel_rfl) (by kernel_rfl) (fun _ _ _ h => h) (Or.inl ⟨by rfl, ?_⟩) (by assumption) ?_
            rotate_left
            · intro w hSw
              (try dsimp only at hSw)
              go_simp
              try with_reducible rfl
            (try simp only [Act.put, List.setIfInBounds_toArray, List.set_cons_zero, List.set_cons_succ])
            refine wpAnyH_done (by kernel_rfl) ?_ _
            obtain ⟨w2, hw2⟩ : ∃ w2, w2 = setG w1 wr.heap.size lv mo r T := ⟨_, rfl⟩
            have hzz := hbd.size
            simp only [World.size_alloc] at hzz
            have HG1 : Hid (GAt w2 g lv mo x t) := by rw [hw2]; exact ((HG.out.alloc _).call hbd).below (setG_below (Below.refl wr.heap.size w1) (Nat.le_refl _) _ _ _ _) hgl
            have HB1 : Hid (Below W.heap.size W w2) := by rw [hw2]; exact setG_below ((HB.out.alloc HB.out.size _).trans (hbd.mono (by have := HB.out.size; simp; omega))) HB.out.size _ _ _ _
            obtain ⟨h, hh⟩ : ∃ h, h = wr.heap.size := ⟨_, rfl⟩
            have HH1 : Hid (GAt w2 h lv mo r T) := by rw [hw2, hh]; exact HGn.out.set _ _ _ _
            have hne : g ≠ h := by rw [hh]; omega
            unfold setG at hw2
            try rw [← hh]
            rw [← hh] at hw2
            rw [← hw2]
            clear hw2 hh hbd hb hHeld HGn n0 n1 n2 n3 nf
            obtain ⟨hg2, k0, k1, k2, k3, kf⟩ := HG1.out
            obtain ⟨hh2, j0, j1, j2, j3, jf⟩ := HH1.out
            clear HG HB hgl c0 c1 c2 c3 c4
            go_wp2
            go_roundw
            case rel =>
              exact ⟨k + 1, c, r, T, by omega, by go_num, by first | go_num | rfl, HTL.out, by omega, HRA, HG1.out.set _ _ _ _, setG_below HB1.out HGL.out _ _ _ _⟩
            case measure => simp [intOf]; omega
        · obtain ⟨hc1, q, hq, hql⟩ := take_low (by have := HM1.out; omega) HRA.out hge
          have HT := Lib.hid fun W => gauge_Take_yes lv mo x t T HLV.out ht HTL.out HLO.out hr hge hq W
          unfold gV at HT
          have HQ : Hid (q ≤ fN (a1 - (c + 1))) := by
            have e : a1 - c - 1 = a1 - (c + 1) := by omega
            rw [e] at hql; exact hql
          have hca1 : c + 1 ≤ a1 := by omega
          clear hr hge HX hq hql HRA hc1
          go_wp2_with fail
          refine wp_region_held_drew (S := fun w' => w'.cell? ⟨g, 0, none⟩ = some (.float .f64 lv) ∧ w'.cell? ⟨g, 1, none⟩ = some (.float .f64 mo) ∧ w'.cell? ⟨g, 2, none⟩ = some (.float .f64 x) ∧ w'.cell? ⟨g, 3, none⟩ = some (.int .u32 (t : Int)) ∧ w'.cell? ⟨b, off + k, none⟩ = some (.int .u32 (T : Int))) (by kernel_rfl) ?_ (fun hHeld => ?_)
          · exact ⟨c0, c1, c2, c3, c4⟩
          refine wpAnyH_take (i := 0) (oi := { dst := some 39, op := Go.Op.load 37 (Go.Operand.tmp 7), type := 37, pos := "law.go:70", after := #[], guard := none }) (v := ?_) rfl (by kernel_rfl) (by kernel_rfl) (by kernel_rfl) (fun _ _ _ h => h) (Or.inl ⟨by rfl, ?_⟩) (by assumption) ?_
          rotate_left
          · intro w hSw
            (try dsimp only at hSw)
            go_simp
            try with_reducible rfl
          (try simp only [Act.put, List.setIfInBounds_toArray, List.set_cons_zero, List.set_cons_succ])
          refine wpAnyH_take (i := 1) (oi := { dst := some 40, op := Go.Op.move (Go.Operand.tmp 2), type := 36, pos := "law.go:70", after := #[], guard := none }) (v := ?_) rfl (by kernel_rfl) (by kernel_rfl) (by kernel_rfl) (fun _ _ _ h => h) (Or.inl ⟨by rfl, ?_⟩) (by assumption) ?_
          rotate_left
          · intro w hSw
            (try dsimp only at hSw)
            go_simp
            try with_reducible rfl
          (try simp only [Act.put, List.setIfInBounds_toArray, List.set_cons_zero, List.set_cons_succ])
          refine wpAnyH_take (i := 2) (oi := { dst := some 41, op := Go.Op.move (Go.Operand.tmp 9), type := 3, pos := "law.go:70", after := #[], guard := none }) (v := ?_) rfl (by kernel_rfl) (by kernel_rfl) (by kernel_rfl) (fun _ _ _ h => h) (Or.inl ⟨by rfl, ?_⟩) (by assumption) ?_
          rotate_left
          · intro w hSw
            (try dsimp only at hSw)
            go_simp
            try with_reducible rfl
          (try simp only [Act.put, List.setIfInBounds_toArray, List.set_cons_zero, List.set_cons_succ])
          refine wpAnyH_take (i := 3) (oi := { dst := some 42, op := Go.Op.indexAddr 36 (Go.Operand.tmp 40) (Go.Operand.tmp 41), type := 0, pos := "law.go:70", after := #[{ on := 1, ground := Go.Ground.data }, { on := 2, ground := Go.Ground.data }], guard := none }) (v := ?_) rfl (by kernel_rfl) (by kernel_rfl) (by kernel_rfl) (fun _ _ _ h => h) (Or.inl ⟨by rfl, ?_⟩) (by assumption) ?_
          rotate_left
          · intro w hSw
            (try dsimp only at hSw)
            go_simp
            try with_reducible rfl
          (try simp only [Act.put, List.setIfInBounds_toArray, List.set_cons_zero, List.set_cons_succ])
          refine wpAnyH_take (i := 4) (oi := { dst := some 43, op := Go.Op.load 33 (Go.Operand.tmp 42), type := 33, pos := "law.go:70", after := #[{ on := 3, ground := Go.Ground.data }], guard := none }) (v := ?_) rfl (by kernel_rfl) (by kernel_rfl) (by kernel_rfl) (fun _ _ _ h => h) (Or.inl ⟨by rfl, ?_⟩) (by assumption) ?_
          rotate_left
          · intro w hSw
            (try dsimp only at hSw)
            go_simp
            try with_reducible rfl
          (try simp only [Act.put, List.setIfInBounds_toArray, List.set_cons_zero, List.set_cons_succ])
          refine wpAnyH_ready (rs := [5, 9]) (by kernel_rfl) (by simp) ?_
          refine (AllReadyH.cons (o := { dst := some 44, op := Go.Op.call { callee := Go.Callee.value (Go.Operand.func 27), args := #[Go.Operand.tmp 39, Go.Operand.tmp 43], argTypes := #[37, 33] }, type := 46, pos := "law.go:70", after := #[{ on := 0, ground := Go.Ground.data }, { on := 4, ground := Go.Ground.data }], guard := none }) rfl (fun K hK => ?_) (AllReadyH.cons (o := { dst := some 10, op := Go.Op.alloc 37, type := 0, pos := "law.go:70", after := #[], guard := none }) rfl (fun K hK => ?_) AllReadyH.nil))
          · go_simp
            refine ((HT).out _).mono ?_
            rintro e w1 ⟨rfl, hb⟩
            have hbd : Below wr.heap.size wr w1 := ((Below.refl wr.heap.size wr).drew).trans hb
            refine hK.out _ _ ?_ (fun hHeld => ?_)
            · (try dsimp only)
              obtain ⟨c0, c1, c2, c3, c4⟩ := hHeld
              exact ⟨(hb.cell (p := ⟨g, _, none⟩) (by show g < wr.heap.size; omega)).trans c0, (hb.cell (p := ⟨g, _, none⟩) (by show g < wr.heap.size; omega)).trans c1, (hb.cell (p := ⟨g, _, none⟩) (by show g < wr.heap.size; omega)).trans c2, (hb.cell (p := ⟨g, _, none⟩) (by show g < wr.heap.size; omega)).trans c3, (hb.cell (p := ⟨b, _, none⟩) (by show b < wr.heap.size; omega)).trans c4⟩
            clear hK K
            (try simp only [Act.put, List.setIfInBounds_toArray, List.set_cons_zero, List.set_cons_succ])
            refine wpAnyH_take (i := 6) (oi := { dst := some 38, op := Go.Op.move (Go.Operand.tmp 44), type := 46, pos := "law.go:70", after := #[{ on := 5, ground := Go.Ground.data }], guard := none }) (v := ?_) rfl (by kernel_rfl) (by kernel_rfl) (by kernel_rfl) (fun _ _ _ h => h) (Or.inl ⟨by rfl, ?_⟩) (by assumption) ?_
            rotate_left
            · intro w hSw
              (try dsimp only at hSw)
              go_simp
              try with_reducible rfl
            (try simp only [Act.put, List.setIfInBounds_toArray, List.set_cons_zero, List.set_cons_succ])
            refine wpAnyH_take (i := 7) (oi := { dst := some 45, op := Go.Op.extract (Go.Operand.tmp 38) 0, type := 37, pos := "law.go:70", after := #[{ on := 6, ground := Go.Ground.data }], guard := none }) (v := ?_) rfl (by kernel_rfl) (by kernel_rfl) (by kernel_rfl) (fun _ _ _ h => h) (Or.inl ⟨by rfl, ?_⟩) (by assumption) ?_
            rotate_left
            · intro w hSw
              (try dsimp only at hSw)
              go_simp
              try with_reducible rfl
            (try simp only [Act.put, List.setIfInBounds_toArray, List.set_cons_zero, List.set_cons_succ])
            refine wpAnyH_take (i := 8) (oi := { dst := some 46, op := Go.Op.extract (Go.Operand.tmp 38) 1, type := 4, pos := "law.go:70", after := #[{ on := 6, ground := Go.Ground.data }, { on := 10, ground := Go.Ground.gcOnly Go.Departure.lateStores }], guard := none }) (v := ?_) rfl (by kernel_rfl) (by kernel_rfl) (by kernel_rfl) (fun _ _ _ h => h) (Or.inl ⟨by rfl, ?_⟩) (by assumption) ?_
            rotate_left
            · intro w hSw
              (try dsimp only at hSw)
              go_simp
              try with_reducible rfl
            (try simp only [Act.put, List.setIfInBounds_toArray, List.set_cons_zero, List.set_cons_succ])
            refine wpAnyH_ready (rs := [9]) (by kernel_rfl) (by simp) ?_
            refine (AllReadyH.cons (o := { dst := some 10, op := Go.Op.alloc 37, type := 0, pos := "law.go:70", after := #[], guard := none }) rfl (fun K hK => ?_) AllReadyH.nil)
            go_simp

            refine hK.out _ _ ?_ (fun hHeld => ?_)
            · (try dsimp only)
              obtain ⟨c0, c1, c2, c3, c4⟩ := hHeld
              exact ⟨(World.cell?_alloc_lt _ _ _ (by show g < w1.heap.size; have := hbd.size; omega)).trans c0, (World.cell?_alloc_lt _ _ _ (by show g < w1.heap.size; have := hbd.size; omega)).trans c1, (World.cell?_alloc_lt _ _ _ (by show g < w1.heap.size; have := hbd.size; omega)).trans c2, (World.cell?_alloc_lt _ _ _ (by show g < w1.heap.size; have := hbd.size; omega)).trans c3, (World.cell?_alloc_lt _ _ _ (by show b < w1.heap.size; have := hbd.size; omega)).trans c4⟩
            clear hK K
            (try simp only [Act.put, List.setIfInBounds_toArray, List.set_cons_zero, List.set_cons_succ])
            refine wpAnyH_ready (rs := [10]) (by kernel_rfl) (by simp) ?_
            refine (AllReadyH.cons (o := { dst := none, op := Go.Op.store 37 (Go.Operand.tmp 10) (Go.Operand.tmp 45), type := 0, pos := "law.go:70", after := #[{ on := 9, ground := Go.Ground.data }, { on := 7, ground := Go.Ground.data }, { on := 5, ground := Go.Ground.chain }, { on := 0, ground := Go.Ground.phase }, { on := 1, ground := Go.Ground.phase }, { on := 2, ground := Go.Ground.phase }, { on := 3, ground := Go.Ground.phase }, { on := 4, ground := Go.Ground.phase }, { on := 5, ground := Go.Ground.phase }, { on := 6, ground := Go.Ground.phase }, { on := 7, ground := Go.Ground.phase }, { on := 8, ground := Go.Ground.textOnly Go.Departure.lateStores }, { on := 9, ground := Go.Ground.phase }], guard := none }) rfl (fun K hK => ?_) AllReadyH.nil)
            go_simp

            refine hK.out _ _ ?_ (fun hHeld => ?_)
            · (try dsimp only)
              obtain ⟨_, u0, u1, u2, u3, _⟩ := HG.out.call hbd
              have hs1 := hbd.size
              exact ⟨(World.cell?_alloc_lt _ _ _ (by show g < w1.heap.size; omega)).trans u0, (World.cell?_alloc_lt _ _ _ (by show g < w1.heap.size; omega)).trans u1, (World.cell?_alloc_lt _ _ _ (by show g < w1.heap.size; omega)).trans u2, (World.cell?_alloc_lt _ _ _ (by show g < w1.heap.size; omega)).trans u3, (World.cell?_alloc_lt _ _ _ (by show b < w1.heap.size; omega)).trans ((hbd.cell (p := ⟨b, off + k, none⟩) (by show b < wr.heap.size; omega)).trans c4)⟩
            clear hK K
            (try simp only [Act.put, List.setIfInBounds_toArray, List.set_cons_zero, List.set_cons_succ])
            refine wpAnyH_take (i := 11) (oi := { dst := some 11, op := Go.Op.assign (Go.Operand.tmp 46), type := 4, pos := "law.go:70", after := #[{ on := 8, ground := Go.Ground.data }, { on := 10, ground := Go.Ground.chain }, { on := 0, ground := Go.Ground.phase }, { on := 1, ground := Go.Ground.phase }, { on := 2, ground := Go.Ground.phase }, { on := 3, ground := Go.Ground.phase }, { on := 4, ground := Go.Ground.phase }, { on := 5, ground := Go.Ground.phase }, { on := 6, ground := Go.Ground.phase }, { on := 7, ground := Go.Ground.phase }, { on := 8, ground := Go.Ground.phase }, { on := 9, ground := Go.Ground.phase }, { on := 10, ground := Go.Ground.phase }], guard := none }) (v := ?_) rfl (by kernel_rfl) (by kernel_rfl) (by kernel_rfl) (fun _ _ _ h => h) (Or.inl ⟨by rfl, ?_⟩) (by assumption) ?_
            rotate_left
            · intro w hSw
              (try dsimp only at hSw)
              go_simp
              try with_reducible rfl
            (try simp only [Act.put, List.setIfInBounds_toArray, List.set_cons_zero, List.set_cons_succ])
            refine wpAnyH_done (by kernel_rfl) ?_ _
            obtain ⟨w2, hw2⟩ : ∃ w2, w2 = w1.alloc (.cells #[.float .f64 lv, .float .f64 mo, .float .f64 q, .int .u32 (T : Int)] 37) := ⟨_, rfl⟩
            have hzz := hbd.size
            have HG1 : Hid (GAt w2 g lv mo x t) := by rw [hw2]; exact (HG.out.call hbd).alloc _
            have HB1 : Hid (Below W.heap.size W w2) := by rw [hw2]; exact (HB.out.trans (hbd.mono HB.out.size)).alloc (by have := HB.out.size; omega) _
            obtain ⟨h, hh⟩ : ∃ h, h = w1.heap.size := ⟨_, rfl⟩
            have HH1 : Hid (GAt w2 h lv mo q T) := by rw [hw2, hh]; exact GAt.new
            have hne : g ≠ h := by rw [hh]; omega
            try rw [← hh]
            rw [← hw2]
            clear hw2 hh hbd hb hHeld
            obtain ⟨hg2, k0, k1, k2, k3, kf⟩ := HG1.out
            obtain ⟨hh2, j0, j1, j2, j3, jf⟩ := HH1.out
            clear HG HB hgl c0 c1 c2 c3 c4
            go_wp2
            go_roundw
            case rel =>
              exact ⟨k + 1, c + 1, q, T, by omega, by go_num, by first | go_num | rfl, HTL.out, by omega, HQ, HG1.out.set _ _ _ _, setG_below HB1.out HGL.out _ _ _ _⟩
            case measure => simp [intOf]; omega
          · go_simp

            refine hK.out _ _ ?_ (fun hHeld => ?_)
            · (try dsimp only)
              obtain ⟨c0, c1, c2, c3, c4⟩ := hHeld
              exact ⟨(World.cell?_alloc_lt _ _ _ (by show g < wr.heap.size; omega)).trans c0, (World.cell?_alloc_lt _ _ _ (by show g < wr.heap.size; omega)).trans c1, (World.cell?_alloc_lt _ _ _ (by show g < wr.heap.size; omega)).trans c2, (World.cell?_alloc_lt _ _ _ (by show g < wr.heap.size; omega)).trans c3, (World.cell?_alloc_lt _ _ _ (by show b < wr.heap.size; omega)).trans c4⟩
            clear hK K
            (try simp only [Act.put, List.setIfInBounds_toArray, List.set_cons_zero, List.set_cons_succ])
            refine wpAnyH_ready (rs := [5]) (by kernel_rfl) (by simp) ?_
            refine (AllReadyH.cons (o := { dst := some 44, op := Go.Op.call { callee := Go.Callee.value (Go.Operand.func 27), args := #[Go.Operand.tmp 39, Go.Operand.tmp 43], argTypes := #[37, 33] }, type := 46, pos := "law.go:70", after := #[{ on := 0, ground := Go.Ground.data }, { on := 4, ground := Go.Ground.data }], guard := none }) rfl (fun K hK => ?_) AllReadyH.nil)
            go_simp
            refine ((HT).out _).mono ?_
            rintro e w1 ⟨rfl, hb⟩
            have hbd : Below (wr.alloc (.cells #[.float .f64 0, .float .f64 0, .float .f64 0, .int .u32 0] 37)).heap.size (wr.alloc (.cells #[.float .f64 0, .float .f64 0, .float .f64 0, .int .u32 0] 37)) w1 := ((Below.refl (wr.alloc (.cells #[.float .f64 0, .float .f64 0, .float .f64 0, .int .u32 0] 37)).heap.size (wr.alloc (.cells #[.float .f64 0, .float .f64 0, .float .f64 0, .int .u32 0] 37))).drew).trans hb
            have HGn : Hid (GAt w1 wr.heap.size 0 0 0 0) := GAt.call GAt.new hbd
            obtain ⟨_, n0, n1, n2, n3, nf⟩ := HGn.out
            refine hK.out _ _ ?_ (fun hHeld => ?_)
            · (try dsimp only)
              obtain ⟨c0, c1, c2, c3, c4⟩ := hHeld
              exact ⟨(hb.cell (p := ⟨g, _, none⟩) (by show g < (wr.alloc _).heap.size; simp; omega)).trans c0, (hb.cell (p := ⟨g, _, none⟩) (by show g < (wr.alloc _).heap.size; simp; omega)).trans c1, (hb.cell (p := ⟨g, _, none⟩) (by show g < (wr.alloc _).heap.size; simp; omega)).trans c2, (hb.cell (p := ⟨g, _, none⟩) (by show g < (wr.alloc _).heap.size; simp; omega)).trans c3, (hb.cell (p := ⟨b, _, none⟩) (by show b < (wr.alloc _).heap.size; simp; omega)).trans c4⟩
            clear hK K
            (try simp only [Act.put, List.setIfInBounds_toArray, List.set_cons_zero, List.set_cons_succ])
            refine wpAnyH_take (i := 6) (oi := { dst := some 38, op := Go.Op.move (Go.Operand.tmp 44), type := 46, pos := "law.go:70", after := #[{ on := 5, ground := Go.Ground.data }], guard := none }) (v := ?_) rfl (by kernel_rfl) (by kernel_rfl) (by kernel_rfl) (fun _ _ _ h => h) (Or.inl ⟨by rfl, ?_⟩) (by assumption) ?_
            rotate_left
            · intro w hSw
              (try dsimp only at hSw)
              go_simp
              try with_reducible rfl
            (try simp only [Act.put, List.setIfInBounds_toArray, List.set_cons_zero, List.set_cons_succ])
            refine wpAnyH_take (i := 7) (oi := { dst := some 45, op := Go.Op.extract (Go.Operand.tmp 38) 0, type := 37, pos := "law.go:70", after := #[{ on := 6, ground := Go.Ground.data }], guard := none }) (v := ?_) rfl (by kernel_rfl) (by kernel_rfl) (by kernel_rfl) (fun _ _ _ h => h) (Or.inl ⟨by rfl, ?_⟩) (by assumption) ?_
            rotate_left
            · intro w hSw
              (try dsimp only at hSw)
              go_simp
              try with_reducible rfl
            (try simp only [Act.put, List.setIfInBounds_toArray, List.set_cons_zero, List.set_cons_succ])
            refine wpAnyH_take (i := 8) (oi := { dst := some 46, op := Go.Op.extract (Go.Operand.tmp 38) 1, type := 4, pos := "law.go:70", after := #[{ on := 6, ground := Go.Ground.data }, { on := 10, ground := Go.Ground.gcOnly Go.Departure.lateStores }], guard := none }) (v := ?_) rfl (by kernel_rfl) (by kernel_rfl) (by kernel_rfl) (fun _ _ _ h => h) (Or.inl ⟨by rfl, ?_⟩) (by assumption) ?_
            rotate_left
            · intro w hSw
              (try dsimp only at hSw)
              go_simp
              try with_reducible rfl
            (try simp only [Act.put, List.setIfInBounds_toArray, List.set_cons_zero, List.set_cons_succ])
            refine wpAnyH_ready (rs := [10]) (by kernel_rfl) (by simp) ?_
            refine (AllReadyH.cons (o := { dst := none, op := Go.Op.store 37 (Go.Operand.tmp 10) (Go.Operand.tmp 45), type := 0, pos := "law.go:70", after := #[{ on := 9, ground := Go.Ground.data }, { on := 7, ground := Go.Ground.data }, { on := 5, ground := Go.Ground.chain }, { on := 0, ground := Go.Ground.phase }, { on := 1, ground := Go.Ground.phase }, { on := 2, ground := Go.Ground.phase }, { on := 3, ground := Go.Ground.phase }, { on := 4, ground := Go.Ground.phase }, { on := 5, ground := Go.Ground.phase }, { on := 6, ground := Go.Ground.phase }, { on := 7, ground := Go.Ground.phase }, { on := 8, ground := Go.Ground.textOnly Go.Departure.lateStores }, { on := 9, ground := Go.Ground.phase }], guard := none }) rfl (fun K hK => ?_) AllReadyH.nil)
            go_simp

            refine hK.out _ _ ?_ (fun hHeld => ?_)
            · (try dsimp only)
              obtain ⟨c0, c1, c2, c3, c4⟩ := hHeld
              exact ⟨((setG_below (Below.refl wr.heap.size w1) (Nat.le_refl _) lv mo q T).cell (p := ⟨g, _, none⟩) (by show g < wr.heap.size; omega)).trans c0, ((setG_below (Below.refl wr.heap.size w1) (Nat.le_refl _) lv mo q T).cell (p := ⟨g, _, none⟩) (by show g < wr.heap.size; omega)).trans c1, ((setG_below (Below.refl wr.heap.size w1) (Nat.le_refl _) lv mo q T).cell (p := ⟨g, _, none⟩) (by show g < wr.heap.size; omega)).trans c2, ((setG_below (Below.refl wr.heap.size w1) (Nat.le_refl _) lv mo q T).cell (p := ⟨g, _, none⟩) (by show g < wr.heap.size; omega)).trans c3, ((setG_below (Below.refl wr.heap.size w1) (Nat.le_refl _) lv mo q T).cell (p := ⟨b, _, none⟩) (by show b < wr.heap.size; omega)).trans c4⟩
            clear hK K
            (try simp only [Act.put, List.setIfInBounds_toArray, List.set_cons_zero, List.set_cons_succ])
            refine wpAnyH_take (i := 11) (oi := { dst := some 11, op := Go.Op.assign (Go.Operand.tmp 46), type := 4, pos := "law.go:70", after := #[{ on := 8, ground := Go.Ground.data }, { on := 10, ground := Go.Ground.chain }, { on := 0, ground := Go.Ground.phase }, { on := 1, ground := Go.Ground.phase }, { on := 2, ground := Go.Ground.phase }, { on := 3, ground := Go.Ground.phase }, { on := 4, ground := Go.Ground.phase }, { on := 5, ground := Go.Ground.phase }, { on := 6, ground := Go.Ground.phase }, { on := 7, ground := Go.Ground.phase }, { on := 8, ground := Go.Ground.phase }, { on := 9, ground := Go.Ground.phase }, { on := 10, ground := Go.Ground.phase }], guard := none }) (v := ?_) rfl (by kernel_rfl) (by kernel_rfl) (by kernel_rfl) (fun _ _ _ h => h) (Or.inl ⟨by rfl, ?_⟩) (by assumption) ?_
            rotate_left
            · intro w hSw
              (try dsimp only at hSw)
              go_simp
              try with_reducible rfl
            (try simp only [Act.put, List.setIfInBounds_toArray, List.set_cons_zero, List.set_cons_succ])
            refine wpAnyH_done (by kernel_rfl) ?_ _
            obtain ⟨w2, hw2⟩ : ∃ w2, w2 = setG w1 wr.heap.size lv mo q T := ⟨_, rfl⟩
            have hzz := hbd.size
            simp only [World.size_alloc] at hzz
            have HG1 : Hid (GAt w2 g lv mo x t) := by rw [hw2]; exact ((HG.out.alloc _).call hbd).below (setG_below (Below.refl wr.heap.size w1) (Nat.le_refl _) _ _ _ _) hgl
            have HB1 : Hid (Below W.heap.size W w2) := by rw [hw2]; exact setG_below ((HB.out.alloc HB.out.size _).trans (hbd.mono (by have := HB.out.size; simp; omega))) HB.out.size _ _ _ _
            obtain ⟨h, hh⟩ : ∃ h, h = wr.heap.size := ⟨_, rfl⟩
            have HH1 : Hid (GAt w2 h lv mo q T) := by rw [hw2, hh]; exact HGn.out.set _ _ _ _
            have hne : g ≠ h := by rw [hh]; omega
            unfold setG at hw2
            try rw [← hh]
            rw [← hh] at hw2
            rw [← hw2]
            clear hw2 hh hbd hb hHeld HGn n0 n1 n2 n3 nf
            obtain ⟨hg2, k0, k1, k2, k3, kf⟩ := HG1.out
            obtain ⟨hh2, j0, j1, j2, j3, jf⟩ := HH1.out
            clear HG HB hgl c0 c1 c2 c3 c4
            go_wp2
            go_roundw
            case rel =>
              exact ⟨k + 1, c + 1, q, T, by omega, by go_num, by first | go_num | rfl, HTL.out, by omega, HQ, HG1.out.set _ _ _ _, setG_below HB1.out HGL.out _ _ _ _⟩
            case measure => simp [intOf]; omega
      · have hfin := HNN.out k hk hlt
        have hcle : (c : Int) ≤ (a1 : Int) := by omega
        have hkk : K = k := by omega
        clear HG HX
        rcases hfin with hfin | hfin
        · have hf : ¬ (k : Int) < (n : Int) := by omega
          go_wp2
          go_ret
          exact ⟨by simp [hcle], HB.out⟩
        · have hf : ¬ (k : Int) < 300 := by omega
          go_wp2
          all_goals go_ret
          all_goals exact ⟨by simp [hcle], HB.out⟩

set_option maxRecDepth 100000 in
/-- What the walk gives, for every argument: the row's own words. -/
theorem contract (H : Type) (enc : TypeId × Value → H) (W : World) (base : Nat) (args : Array Value) (ds gs : List (DataW H)) (before : List MemPlace)
    (hval : ∀ (j : Nat) t v, Try.f6.params[j]? = some t → args[j]? = some v → Value.okWide Try.prog W .any base t v)
    (hW : DataW.Whole enc Try.prog Try.f6.params.toList Rows.gaugeShutsSpec.vars false W args.toList ds gs before) :
    Calls Try.prog 6 args W fun e W' => ∃ v, e = .returned v ∧ Rows.gaugeShutsSpec.post enc Try.prog Try.f6 false true false false W args v W' := by
  have hW' := hW
  obtain ⟨p, q, hA0, hV, rfl, hfz, hnd⟩ := hW
  have hA : DataW.TrodAll enc Try.prog W 0 (fun _ => true) true Try.f6.params.toList args.toList ds p := hA0
  rw [Try.params6] at hA hval
  obtain ⟨v0, vs0, d0, ds0, p0, q0, hargs, rfl, rfl, h0, r0⟩ := trodAll_cons hA
  obtain ⟨v1, vs1, d1, ds1, p1, q1, rfl, rfl, rfl, h1, r1⟩ := trodAll_cons r0
  obtain ⟨v2, vs2, d2, ds2, p2, q2, rfl, rfl, rfl, h2, r2⟩ := trodAll_cons r1
  obtain ⟨rfl, rfl, rfl⟩ := trodAll_nil r2
  obtain rfl : args = #[v0, v1, v2] := by cases args; simp_all
  obtain ⟨a0, rfl, b0⟩ := open_f64 Try.underlying22 (hval 0 22 v0 rfl rfl) h0
  obtain ⟨a1, rfl, b1⟩ := open_u8 Try.underlying5 (hval 1 5 v1 rfl rfl) h1
  obtain ⟨l2, b2, c2⟩ := open_u32s Try.underlying36 Try.underlying33 (by kernel_rfl) (hval 2 36 v2 rfl rfl) h2
  refine (walk W a0 b0 a1 b1 v2 l2 b2 c2).mono fun e W' ⟨he, hb⟩ => ?_
  subst he
  exact close_true (by kernel_rfl) Try.underlying4 (by kernel_rfl) (by kernel_rfl) rfl rfl hW' hb

set_option maxRecDepth 100000 in
theorem lifted (os : Os) (started : os.Started) (H : Type) (enc : TypeId × Value → H) :
    ReturnsInHanded {} Try.checked os 6 .any (Rows.gaugeShutsSpec.pre6 enc Try.prog Try.f6 Rows.gaugeShutsRow.domain false) (Rows.gaugeShutsSpec.post enc Try.prog Try.f6 false true false false) := by
  refine returnsInHanded_of_change (C := Try.checked) own started (by kernel_rfl) Try.func6
    (ChangeSpec.witness6 (enc := enc) (C := Try.checked) false ⟨#[], #[.float .f64 0, .int .u8 0, .slice none 0 0], []⟩ 8 (by kernel_rfl) (by kernel_rfl) (by kernel_rfl) (by kernel_rfl)) ?_
  intro W base args ds gs before hval hW _ _
  exact contract H enc W base args ds gs before hval hW

theorem proved : Rows.GaugeShutsSaid :=
  OpenClaim.holds_of_wide 6 Try.f6 rfl rfl rfl rfl rfl rfl rfl ⟨rfl, rfl, rfl, rfl, rfl⟩ rfl rfl rfl rfl rfl (by kernel_rfl) Try.func6 (by kernel_rfl)
    (of_decide_eq_true (by kernel_rfl)) (by unfold Func.isWrapper; first | (rw [if_pos (by decide +kernel)]; kernel_rfl) | (rw [if_neg (by decide +kernel)]; exact ⟨rfl, rfl⟩))
    (fun os started H enc _ => lifted os started H enc)
#print axioms proved
end Go.Proofs.Ytdgjgddobjhekaa.gaugeShuts
