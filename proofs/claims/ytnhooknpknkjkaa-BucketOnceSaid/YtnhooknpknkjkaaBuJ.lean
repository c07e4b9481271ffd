/-
  An entry put among places: the document's put, Learn and Order. No statement is proved here.
-/
import Derived.Test.YtnhooknpknkjkaaBuH
import Derived.Test.YtnhooknpknkjkaaBuE
import Derived.Test.YtnhooknpknkjkaaBuF
import Derived.Test.YtnhooknpknkjkaaKeyC
set_option linter.unusedVariables false
namespace Go.Proofs.Ytnhooknpknkjkaa
open Go.RowKit

theorem rowP_is (f : Nat → Pl) (G : Nat → Value) (k c : Nat) (hc : c < 6) (i : Nat) (hi : i = k * 6 + c) (hG : G i = rowP f i) : G i = (f k).cells.getD c (.bool false) := by
  rw [hG, hi, rowP_at f k c hc]
theorem rowP_five (f : Nat → Pl) (G : Nat → Value) (k : Nat) (u : Bool) (v : Int) (m : Nat) (p : Int) (st : Bool) (s : Nat) (i : Nat) (hG : G i = rowP f i) (hu : (f k).used = u) :
    (if i = k * 6 + 5 then Value.int .u32 (s : Nat) else if i = k * 6 + 4 then .bool st else if i = k * 6 + 3 then .int .i64 p else if i = k * 6 + 2 then .int .u64 (m : Nat) else if i = k * 6 + 1 then .int .i64 v else G i) = rowP (updP f k ⟨u, ⟨v, m, p, st, s⟩⟩) i := by
  rw [← rowP_upd f G k u v m p st s i hG]
  have h0 : (if i = k * 6 then Value.bool u else G i) = G i := by
    split
    · rename_i h
      rw [rowP_is f G k 0 (by omega) i (by omega) hG]
      simp [Pl.cells, hu]
    · rfl
  rw [h0]
theorem rowP_stamp (f : Nat → Pl) (G : Nat → Value) (k : Nat) (u : Bool) (v : Int) (m : Nat) (p : Int) (st : Bool) (s0 s : Nat) (i : Nat) (hG : G i = rowP f i) (hx : f k = ⟨u, ⟨v, m, p, st, s0⟩⟩) :
    (if i = k * 6 + 5 then Value.int .u32 (s : Nat) else G i) = rowP (updP f k ⟨u, ⟨v, m, p, st, s⟩⟩) i := by
  rw [← rowP_five f G k u v m p st s i hG (by rw [hx])]
  have e : ∀ c, c < 6 → i = k * 6 + c → G i = (Pl.cells ⟨u, ⟨v, m, p, st, s0⟩⟩).getD c (.bool false) := fun c hc hi => by rw [rowP_is f G k c hc i hi hG, hx]
  by_cases h5 : i = k * 6 + 5
  · rw [if_pos h5, if_pos h5]
  · rw [if_neg h5, if_neg h5]
    by_cases h4 : i = k * 6 + 4
    · rw [if_pos h4, e 4 (by omega) h4]; rfl
    · rw [if_neg h4]
      by_cases h3 : i = k * 6 + 3
      · rw [if_pos h3, e 3 (by omega) h3]; rfl
      · rw [if_neg h3]
        by_cases h2 : i = k * 6 + 2
        · rw [if_pos h2, e 2 (by omega) h2]; rfl
        · rw [if_neg h2]
          by_cases h1 : i = k * 6 + 1
          · rw [if_pos h1, e 1 (by omega) h1]; rfl
          · rw [if_neg h1]
theorem rowP_port (f : Nat → Pl) (G : Nat → Value) (k : Nat) (u : Bool) (v : Int) (m : Nat) (p0 p : Int) (st : Bool) (s : Nat) (i : Nat) (hG : G i = rowP f i) (hx : f k = ⟨u, ⟨v, m, p0, st, s⟩⟩) :
    (if i = k * 6 + 3 then Value.int .i64 p else G i) = rowP (updP f k ⟨u, ⟨v, m, p, st, s⟩⟩) i := by
  rw [← rowP_five f G k u v m p st s i hG (by rw [hx])]
  have e : ∀ c, c < 6 → i = k * 6 + c → G i = (Pl.cells ⟨u, ⟨v, m, p0, st, s⟩⟩).getD c (.bool false) := fun c hc hi => by rw [rowP_is f G k c hc i hi hG, hx]
  by_cases h5 : i = k * 6 + 5
  · rw [if_pos h5, if_neg (by omega), e 5 (by omega) h5]; rfl
  · rw [if_neg h5]
    by_cases h4 : i = k * 6 + 4
    · rw [if_pos h4, if_neg (by omega), e 4 (by omega) h4]; rfl
    · rw [if_neg h4]
      by_cases h3 : i = k * 6 + 3
      · rw [if_pos h3, if_pos h3]
      · rw [if_neg h3, if_neg h3]
        by_cases h2 : i = k * 6 + 2
        · rw [if_pos h2, e 2 (by omega) h2]; rfl
        · rw [if_neg h2]
          by_cases h1 : i = k * 6 + 1
          · rw [if_pos h1, e 1 (by omega) h1]; rfl
          · rw [if_neg h1]
section
variable {w : World} {T : TypeId} {B n g cap : Nat} {f : Nat → Pl}
theorem RowOf.rowAt (h : RowOf w T B (.slice (some ⟨g, 0, none⟩) n cap) n f) (hn : 0 < n) : n ≤ cap ∧ cap ≤ maxLen ∧ B ≤ g ∧ ∃ G, w.rowIs g T (cap * 6) G ∧ ∀ j, j < n * 6 → G j = rowP f j := by
  obtain ⟨A, c, hv, h1, h2, h3⟩ := h
  injection hv with q1 q2 q3
  subst q1 q3
  obtain ⟨g2, G, q, hg, hr, hG⟩ := h3 hn
  injection q with q
  injection q with q _ _
  subst q
  exact ⟨h1, h2, hg, G, hr, hG⟩
theorem RowOf.put5 (h : RowOf w T B (.slice (some ⟨g, 0, none⟩) n cap) n f) (hn : 0 < n) (k : Nat) (u : Bool) (v : Int) (m : Nat) (p : Int) (st : Bool) (s : Nat) (hu : (f k).used = u) :
    RowOf (((((w.setCell ⟨g, k * 6 + 1, none⟩ (.int .i64 v)).setCell ⟨g, k * 6 + 2, none⟩ (.int .u64 (m : Nat))).setCell ⟨g, k * 6 + 3, none⟩ (.int .i64 p)).setCell ⟨g, k * 6 + 4, none⟩ (.bool st)).setCell ⟨g, k * 6 + 5, none⟩ (.int .u32 (s : Nat))) T B (.slice (some ⟨g, 0, none⟩) n cap) n (updP f k ⟨u, ⟨v, m, p, st, s⟩⟩) := by
  obtain ⟨h1, h2, hg, G, hr, hG⟩ := h.rowAt hn
  exact ⟨_, cap, rfl, h1, h2, fun _ => ⟨g, _, rfl, hg, (((((hr.set _ _).set _ _).set _ _).set _ _).set _ _), fun j hj => rowP_five f G k u v m p st s j (hG j hj) hu⟩⟩
theorem RowOf.putS (h : RowOf w T B (.slice (some ⟨g, 0, none⟩) n cap) n f) (hn : 0 < n) (k : Nat) {u : Bool} {v : Int} {m : Nat} {p : Int} {st : Bool} {s0 : Nat} (s : Nat) (hx : f k = ⟨u, ⟨v, m, p, st, s0⟩⟩) :
    RowOf (w.setCell ⟨g, k * 6 + 5, none⟩ (.int .u32 (s : Nat))) T B (.slice (some ⟨g, 0, none⟩) n cap) n (updP f k ⟨u, ⟨v, m, p, st, s⟩⟩) := by
  obtain ⟨h1, h2, hg, G, hr, hG⟩ := h.rowAt hn
  exact ⟨_, cap, rfl, h1, h2, fun _ => ⟨g, _, rfl, hg, hr.set _ _, fun j hj => rowP_stamp f G k u v m p st s0 s j (hG j hj) hx⟩⟩
theorem RowOf.putQ (h : RowOf w T B (.slice (some ⟨g, 0, none⟩) n cap) n f) (hn : 0 < n) (k : Nat) {u : Bool} {v : Int} {m : Nat} {p0 : Int} {st : Bool} {s : Nat} (p : Int) (hx : f k = ⟨u, ⟨v, m, p0, st, s⟩⟩) :
    RowOf (w.setCell ⟨g, k * 6 + 3, none⟩ (.int .i64 p)) T B (.slice (some ⟨g, 0, none⟩) n cap) n (updP f k ⟨u, ⟨v, m, p, st, s⟩⟩) := by
  obtain ⟨h1, h2, hg, G, hr, hG⟩ := h.rowAt hn
  exact ⟨_, cap, rfl, h1, h2, fun _ => ⟨g, _, rfl, hg, hr.set _ _, fun j hj => rowP_port f G k u v m p0 p st s j (hG j hj) hx⟩⟩
end
/-- An entry in a new place. -/
def newF (f : Nat → Pl) (e : En) (now n : Nat) : (Nat → Pl) × Nat := if (roomF f now n).1 < 0 then (f, 5) else (updP f (roomF f now n).1.toNat ⟨true, e⟩, (roomF f now n).2)
theorem newF_none {f : Nat → Pl} {e : En} {now n : Nat} (h : (roomF f now n).1 < 0) : newF f e now n = (f, 5) := if_pos h
theorem newF_at {f : Nat → Pl} {e : En} {now n j : Nat} (h : (roomF f now n).1 = (j : Int)) : newF f e now n = (updP f j ⟨true, e⟩, (roomF f now n).2) := by
  unfold newF; rw [if_neg (by omega), h, Int.toNat_natCast]
theorem putF_newF {f : Nat → Pl} {e : En} {now n : Nat} (h : rightE e = true) (h1 : findF f e.vid e.mac n < 0) : putF f e now n = newF f e now n := by
  unfold putF newF; rw [if_neg (by simp [h]), if_pos h1]

set_option maxHeartbeats 3200000 in
theorem ref10_put {F : Nat → Pl} {n c1 : Nat} {A1 : Option Addr} {w : World} {B : Nat} (hrow : RowOf w 74 B (.slice A1 n c1) n F) (hB : B ≤ w.heap.size) (hst : ∀ i, i < n → (F i).e.stamp < 4294967296) (v : Int) (m : Nat) (p : Int) (st : Bool) (s : Nat) (now : Nat) (hnow : now < 4294967296) :
    Calls Try.prog 35 #[.slice A1 n c1, .agg #[.int .i64 v, .int .u64 (m : Int), .int .i64 p, .bool st, .int .u32 (s : Int)], .int .u32 (now : Int)] w (fun e w' => e = .returned (.tuple #[.slice A1 n c1, .int .i64 ((newF F ⟨v, m, p, st, s⟩ now n).2 : Nat)]) ∧ RowOf w' 74 B (.slice A1 n c1) n (newF F ⟨v, m, p, st, s⟩ now n).1 ∧ Below B w w') := by
  have HROW0 := Lib.hid hrow
  obtain ⟨_, _, hv, hc1, hm1, _⟩ := hrow
  injection hv with q1 q2 q3
  subst q1 q3
  unfold maxLen at hm1
  have HRO := Lib.hid fun W (h : PlRow W W.heap.size (.slice A1 n c1) n F) => ref10_room h (Nat.le_refl _) hst now hnow
  have HN0 := Lib.hid (@newF_none F ⟨v, m, p, st, s⟩ now n)
  have HN1 := Lib.hid fun (j : Nat) => @newF_at F ⟨v, m, p, st, s⟩ now n j
  have hrb := roomF_bd F now n
  obtain ⟨rm, hrm⟩ : ∃ rm, rm = roomF F now n := ⟨_, rfl⟩
  rw [← hrm] at hrb
  have HRM : Hid (roomF F now n = rm) := hrm.symm
  clear hst hnow hrm
  obtain ⟨pl, came⟩ := rm
  simp only at hrb
  obtain ⟨r1, r2, r3, r4, r5⟩ := hrb
  go_enter Try.func35, Try.ntmps35
  go_wp2_with fail
  refine (HRO.out _ (HROW0.out.below ((Below.refl _ _).alloc (Nat.le_refl _) _)).row).mono ?_
  rw [HRM.out]
  rintro e w1 ⟨rfl, hb⟩
  obtain ⟨hcc, _⟩ := bcell hb
  have e0 : w1.cell? ⟨w.heap.size, 0, none⟩ = some (.int .i64 v) := by rw [hcc _ _ (by simp)]; simp [go_sem]
  have e1 : w1.cell? ⟨w.heap.size, 1, none⟩ = some (.int .u64 (m : Int)) := by rw [hcc _ _ (by simp)]; simp [go_sem]
  have e2 : w1.cell? ⟨w.heap.size, 2, none⟩ = some (.int .i64 p) := by rw [hcc _ _ (by simp)]; simp [go_sem]
  have e3 : w1.cell? ⟨w.heap.size, 3, none⟩ = some (.bool st) := by rw [hcc _ _ (by simp)]; simp [go_sem]
  have e4 : w1.cell? ⟨w.heap.size, 4, none⟩ = some (.int .u32 (s : Int)) := by rw [hcc _ _ (by simp)]; simp [go_sem]
  have HB1 : Hid (Below w.heap.size w w1) := Below.trans (by (repeat' (first | (with_reducible exact Below.refl _ _) | (with_reducible assumption) | (with_reducible refine Below.setCell ?_ ?_ _) | (with_reducible refine Below.alloc ?_ ?_ _) | (with_reducible refine below_drewN ?_ _) | (with_reducible refine Below.drew ?_) | go_size))) (hb.mono (by go_size))
  have HROW := Lib.hid (HROW0.out.below HB1.out)
  have hz1 : w.heap.size + 1 ≤ w1.heap.size := by have := hb.size; simp at this; omega
  clear hcc hb HRO HROW0
  by_cases hpl : pl < 0
  · obtain rfl := r4 hpl
    have HP := Lib.hid (HN0.out (by rw [HRM.out]; exact hpl))
    have hpd : decide (pl ≥ 0) = false := decide_eq_false (by omega)
    clear r1 r2 r3 r4 r5 HN0 HN1
    go_wp2
    go_ret2
    refine ⟨?_, ?_, HB1.out.mono hB⟩
    · rw [HP.out]; rfl
    · rw [HP.out]; exact HROW.out
  · obtain ⟨j, rfl⟩ := Int.eq_ofNat_of_zero_le (show 0 ≤ pl by omega)
    have hj : j < n := by omega
    have j0 : (0 : Int) ≤ (j : Int) := Int.natCast_nonneg _
    have j1 : (j : Int) < (n : Int) := by omega
    have HP := Lib.hid (HN1.out j (by rw [HRM.out]))
    rw [HRM.out] at HP
    clear r1 r2 r3 r4 r5 HN0 HN1 hpl
    obtain ⟨gb, cap2, hv2, k1, k2, k3, k4, k5, k6, k7⟩ := HROW.out.open_ (by omega)
    injection hv2 with q1 q2 q3
    subst q1 q3
    obtain ⟨d0, d1, d2, d3, d4, d5⟩ := k5 j hj
    have f0 := k6
    have HK7 := Lib.hid (k7 j true v m p st s)
    clear k5 k6 k7 HROW
    go_wp2
    go_ret2
    refine ⟨?_, ?_, setP_below (HB1.out.mono hB) k3 (j * 6) true v m p st s⟩
    · rw [HP.out]; rfl
    · rw [HP.out]
      exact HK7.out
end Go.Proofs.Ytnhooknpknkjkaa
