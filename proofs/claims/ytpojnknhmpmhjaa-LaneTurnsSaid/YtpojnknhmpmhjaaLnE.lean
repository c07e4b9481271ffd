/-
  A lane is made, or isn't; how many wait at it. No statement is proved here.
-/
import Derived.Test.YtpojnknhmpmhjaaLnD
set_option linter.unusedVariables false
namespace Go.Proofs.Ytpojnknhmpmhjaa
open Go.RowKit

theorem own_cells {w : World} {B n : Nat} {e : TypeId} {v : Value} {xs : List Value} (h : w.ownsRow B e 1 v n xs) (h0 : 0 < n) : ∃ g cap, v = .slice (some ⟨g, 0, none⟩) n cap ∧ n ≤ cap ∧ cap ≤ maxLen ∧ B ≤ g ∧ g < w.heap.size ∧ ∀ k, k < n → w.cell? ⟨g, k, none⟩ = xs[k]? := by
  rcases h.2 with ⟨_, e⟩ | ⟨g, cap, cur, hv, hb, hg, hcp, hm, _⟩
  · have := h.1; rw [e] at this; simp at this; omega
  · subst hv
    have hl := h.lt g rfl
    have := (Sl.of_own h).at_ h0
    obtain ⟨b, off, cap', e1, _, _, _, hcell⟩ := this
    cases e1
    refine ⟨g, cap, rfl, hcp, hm, hb, hl.2, fun k hk => ?_⟩
    have := hcell k (by omega)
    rwa [Nat.zero_add] at this
/-- Rings that are there. -/
def Rings (w : World) (n : Nat) (rbs : Nat → Nat) : Prop := ∀ i, i < n → ∃ lo b G, RingAt w lo b (rbs i) G
theorem asks_rings {w : World} {n : Nat} {f : Nat → Option Addr} {d : Nat → Bool} (h : ∀ i, i < n → (f i = none ∧ d i = true) ∨ (∃ rb lo b G, f i = some ⟨rb, 0, none⟩ ∧ RingAt w lo b rb G ∧ d i = false)) : Asks w n f d := by
  intro i hi k
  rcases h i hi with ⟨e1, e2⟩ | ⟨rb, lo, b, G, e1, hr, e2⟩
  · rw [e1, e2]
    exact isNone_of (x := 0) (fun q => ring_Size0 _) rfl k
  · rw [e1, e2]
    exact isNone_of (x := (G.sz : Nat)) (fun q => ring_Size (hr.below (below_drewN (Below.refl _ _) q))) (by have := hr.fits.one; simp; omega) k
/-- A ring's own size, by its row alone. -/
def Sized (w : World) (rb : Nat) (z : Nat) : Prop := ∃ F : Nat → Value, w.rowIs rb 84 6 F ∧ F 2 = .int .i64 (z : Int)
theorem Sized.of_ring {w : World} {lo b rb : Nat} {G : RgS} (h : RingAt w lo b rb G) : Sized w rb G.sz := ⟨_, h.row, rfl⟩
theorem Sized.tch {D : Nat → Prop} {w w' : World} {rb z : Nat} (h : Sized w rb z) (ht : Tch D w w') (hd : ¬ D rb) : Sized w' rb z := by
  obtain ⟨F, h1, h2⟩ := h
  exact ⟨F, rowIs_tch h1 ht hd, h2⟩
theorem Sized.lt {w : World} {rb z : Nat} (h : Sized w rb z) : rb < w.heap.size := by
  obtain ⟨F, h1, _⟩ := h
  exact h1.lt
theorem size_row {w : World} {rb z : Nat} (h : Sized w rb z) : Calls Try.prog 14 #[.pointer (some ⟨rb, 0, none⟩)] w fun e w' => e = .returned (.int .i64 (z : Int)) ∧ w = w' := by
  obtain ⟨F, h1, h2⟩ := h
  have r2 : w.cell? ⟨rb, 2, none⟩ = some (.int .i64 (z : Int)) := by rw [← h2]; exact h1.cell (by omega)
  clear h1 h2
  go_enter Try.func14, Try.ntmps14
  go_wp2
  go_ret
  exact ⟨rfl, rfl⟩
theorem asks_sized {w : World} {n : Nat} {f : Nat → Option Addr} {d : Nat → Bool} (h : ∀ i, i < n → (f i = none ∧ d i = true) ∨ (∃ rb z, f i = some ⟨rb, 0, none⟩ ∧ Sized w rb z ∧ 1 ≤ z ∧ d i = false)) : Asks w n f d := by
  intro i hi k
  rcases h i hi with ⟨e1, e2⟩ | ⟨rb, z, e1, hr, hz, e2⟩
  · rw [e1, e2]
    exact isNone_of (x := 0) (fun q => ring_Size0 _) rfl k
  · rw [e1, e2]
    exact isNone_of (x := (z : Int)) (fun q => size_row (hr.tch (D := fun _ => False) (Tch.of_below (below_drewN (Below.refl _ _) q)) (fun h => h))) (by simp; omega) k
set_option maxRecDepth 20000 in
set_option maxHeartbeats 1600000 in
theorem lane_New {w : World} {B n : Nat} {v : Value} {rbs : Nat → Nat} (hv : Sl w B 1 v n (ptv (rp rbs) n)) (hB : B ≤ w.heap.size) (hn0 : 1 ≤ n) (hn : n ≤ 64) (hlt : ∀ i, i < n → rbs i < w.heap.size) (hr : Asks w n (rp rbs) fun _ => false) :
    Calls Try.prog 45 #[v] w fun e w' => ∃ lb g cap, e = .returned (.tuple #[.pointer (some ⟨lb, 0, none⟩), .int .i64 0]) ∧ LaneAt w' lb g n cap rbs 0 false ∧ w.heap.size ≤ g ∧ Below w.heap.size w w' := by
  have HC := Lib.hid (contains_rings hv (by omega) hr n (Nat.le_refl _) (fun _ _ => rfl) (fun h => absurd h (by omega)))
  rw [show decide (n < n) = false by simp] at HC
  have HCL : Hid (∀ q, Calls Try.prog 61 #[v] (w.drewN q) fun e w' => ∃ u, e = .returned u ∧ w'.ownsRow w.heap.size 28 1 u n (ptv (rp rbs) n) ∧ Below w.heap.size (w.drewN q) w') := fun q => clone_rings (by omega) (by omega) (hv.drewN q) hB
  have HFIN : Hid (∀ (w2 : World) (u : Value), w2.ownsRow w.heap.size 28 1 u n (ptv (rp rbs) n) → w.heap.size ≤ w2.heap.size → ∃ g cap, u = .slice (some ⟨g, 0, none⟩) n cap ∧ w.heap.size ≤ g ∧ LaneAt (w2.alloc (.cells #[.slice (some ⟨g, 0, none⟩) n cap, .int .i64 0, .bool false] 94)) w2.heap.size g n cap rbs 0 false) := fun w2 u ho hz => by
    obtain ⟨g, cap, e1, h1, h2, h3, h4, h5⟩ := own_cells ho (by omega)
    refine ⟨g, cap, e1, h3, World.rowIs_alloc w2 #[.slice (some ⟨g, 0, none⟩) n cap, .int .i64 0, .bool false] 94 (laneF g n cap 0 false) (fun i hi => by
      match i, hi with
      | 0, _ => rfl
      | 1, _ => rfl
      | 2, _ => rfl), fun i hi => ?_, h4, fun i hi => by have := hlt i hi; omega, hn0, hn, by omega, h1, h2⟩
    rw [World.cell?_alloc_lt _ _ _ (by show g < _; omega), h5 i hi, ptv_at _ hi]
    rfl
  obtain ⟨A, cap, rfl, hcap, hmx⟩ := hv.form
  have d1 : decide ((n : Int) < 1) = false := by simp; omega
  have d2 : decide ((n : Int) > 64) = false := by simp; omega
  have d2' : decide (64 < (n : Int)) = false := by simp; omega
  clear hv hr hlt
  go_enter Try.func45, Try.ntmps45
  go_wp2_with fail
  refine (HC.out).mono ?_
  rintro e w1 ⟨rfl, q, rfl⟩
  go_wp2_with fail
  refine (HCL.out q).mono ?_
  rintro e w2 ⟨u, rfl, ho, hb⟩
  have HB2 := Lib.hid (Below.trans (below_drewN (Below.refl w.heap.size w) q) hb)
  obtain ⟨g, cap', rfl, hg, hla⟩ := HFIN.out w2 u ho HB2.out.size
  have HLA := Lib.hid hla
  clear ho hb hla HFIN
  go_wp2
  go_ret2
  exact ⟨_, _, _, rfl, HLA.out, hg, HB2.out.alloc HB2.out.size _⟩
theorem lane_NewBad {w : World} {B n : Nat} {v : Value} {f : Nat → Option Addr} (hv : Sl w B 1 v n (ptv f n)) (hn : n ≤ 1000) (hbad : n < 1 ∨ 64 < n ∨ ∃ m d, m < n ∧ Asks w n f d ∧ (∀ i, i < m → d i = false) ∧ d m = true) :
    Calls Try.prog 45 #[v] w fun e w' => e = .returned (.tuple #[.pointer none, .int .i64 1]) ∧ ∃ q, w' = w.drewN q := by
  obtain ⟨A, cap, rfl, hcap, hmx⟩ := hv.form
  by_cases h1 : n < 1
  · have d1 : decide ((n : Int) < 1) = true := by simp; omega
    clear hbad hv
    go_enter Try.func45, Try.ntmps45
    go_wp2
    go_ret2
    exact ⟨rfl, 0, by rw [World.drewN_zero]⟩
  · have d1 : decide ((n : Int) < 1) = false := by simp; omega
    by_cases h2 : 64 < n
    · have d2 : decide ((n : Int) > 64) = true := by simp; omega
      have d2' : decide (64 < (n : Int)) = true := by simp; omega
      clear hbad hv
      go_enter Try.func45, Try.ntmps45
      go_wp2
      go_ret2
      exact ⟨rfl, 0, by rw [World.drewN_zero]⟩
    · have d2 : decide ((n : Int) > 64) = false := by simp; omega
      have d2' : decide (64 < (n : Int)) = false := by simp; omega
      obtain ⟨m, d, hm, ha, h0, hd⟩ : ∃ m d, m < n ∧ Asks w n f d ∧ (∀ i, i < m → d i = false) ∧ d m = true := by
        rcases hbad with h | h | h
        · exact absurd h h1
        · exact absurd h h2
        · exact h
      have HC := Lib.hid (contains_rings hv (by omega) ha m (by omega) h0 (fun _ => hd))
      rw [decide_eq_true hm] at HC
      clear hv ha h0 hd
      go_enter Try.func45, Try.ntmps45
      go_wp2_with fail
      refine (HC.out).mono ?_
      rintro e w1 ⟨rfl, q, rfl⟩
      go_wp2
      go_ret2
      exact ⟨rfl, q, rfl⟩
/-- How many wait, in all. -/
def sumL (q : Nat → List Int) : Nat → Nat
  | 0 => 0
  | k + 1 => sumL q k + (q k).length
theorem sumL_le {q : Nat → List Int} {M : Nat} : ∀ n, (∀ i, i < n → (q i).length ≤ M) → sumL q n ≤ n * M
  | 0, _ => by simp [sumL]
  | k + 1, h => by
    have h1 := sumL_le (q := q) k fun i hi => h i (by omega)
    have h2 := h k (by omega)
    unfold sumL
    rw [Nat.add_mul]
    omega
set_option maxRecDepth 20000 in
set_option maxHeartbeats 1600000 in
theorem lane_Len {w : World} {lo b lb g n cap : Nat} {rbs : Nat → Nat} {c : Nat} {tk : Bool} {G : Nat → RgS} {m : MemS} {p t : Nat → Nat} {q : Nat → List Int} (h : LaneAt w lb g n cap rbs c tk) (hr : RgsAt w lo b n rbs G) (hq : RgsQ n G m p t q) :
    Calls Try.prog 41 #[.pointer (some ⟨lb, 0, none⟩)] w (Quiet (.int .i64 (sumL q n : Nat)) w) := by
  have hq64 : ∀ i, i < n → (q i).length ≤ 64 := fun i hi => by have := (hq.que i hi).len; have := (hq.que i hi).room; have := (hq.que i hi).fits.most; omega
  have hfew := h.few
  have hcap := h.cap1
  have hcap2 := h.cap2
  unfold maxLen at hcap2
  obtain ⟨s0, s1, s2, s3⟩ := h.at_
  have HCL := Lib.hid h.cells
  have HLN : Hid (∀ i, i < n → ∀ k, Calls Try.prog 22 #[.pointer (some ⟨rbs i, 0, none⟩)] (w.drewN k) fun e w' => e = .returned (.int .i64 ((q i).length : Nat)) ∧ ∃ k', w' = w.drewN k') := fun i hi k => (ring_Len ((hr.ring i hi).below (below_drewN (Below.refl _ _) k)) (hq.que i hi)).mono fun _ _ ⟨h1, k', h2⟩ => ⟨h1, k + k', by rw [h2, World.drewN_drewN]⟩
  have HQ := Lib.hid hq64
  clear h hr hq s1 s2 s3 hq64
  go_enter Try.func41, Try.ntmps41
  go_wp2
  go_loopw [3, 13] (fun s i wr => ∃ k : Nat, k ≤ n ∧ s = .int .i64 (sumL q k : Nat) ∧ i = .int .i64 k ∧ ∃ z, wr = w.drewN z) (fun _ i _ => n - (intOf i).toNat)
  case atStart => exact ⟨0, by omega, rfl, rfl, 0, by rw [World.drewN_zero]⟩
  case round =>
    obtain ⟨k, hk, rfl, rfl, z, rfl⟩ := hrel
    by_cases hlt : k < n
    · have hcell : (w.drewN z).cell? ⟨g, k, none⟩ = some (.pointer (some ⟨rbs k, 0, none⟩)) := HCL.out k hlt
      have HL := Lib.hid (HLN.out k hlt z)
      have hs : sumL q k ≤ k * 64 := sumL_le k fun i hi => HQ.out i (by omega)
      have hl := HQ.out k hlt
      have hw : wrap64 ((sumL q k : Nat) + ((q k).length : Nat) : Int) = ((sumL q (k + 1) : Nat) : Int) := by
        show _ = ((sumL q k + (q k).length : Nat) : Int)
        rw [show ((sumL q k + (q k).length : Nat) : Int) = (sumL q k : Nat) + ((q k).length : Nat) by omega]
        exact IntWalk.wrap64_in _ (by omega)
      obtain ⟨Y, hY⟩ : ∃ Y : Int, Y = ((sumL q (k + 1) : Nat) : Int) := ⟨_, rfl⟩
      rw [← hY] at hw
      have HY := Lib.hid hY
      clear hs hl hY
      generalize ((sumL q k : Nat) : Int) = X at *
      generalize ((q k).length : Int) = Z at *
      go_wp2_with fail
      refine (HL.out).mono ?_
      rintro e w1 ⟨rfl, z', rfl⟩
      go_wp2
      go_roundw
      case rel => exact ⟨k + 1, by omega, by rw [hw, HY.out], by go_num, z', rfl⟩
      case measure => simp [intOf]; omega
    · have hkn : k = n := by omega
      subst hkn
      go_wp2
      go_ret
      exact ⟨rfl, z, rfl⟩
end Go.Proofs.Ytpojnknhmpmhjaa
