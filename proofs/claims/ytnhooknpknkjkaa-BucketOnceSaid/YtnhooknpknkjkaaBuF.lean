/-
  The document's copy of places. No statement is proved here.
-/
import Derived.Test.YtnhooknpknkjkaaBuC
set_option linter.unusedVariables false
namespace Go.Proofs.Ytnhooknpknkjkaa
open Go.RowKit

theorem listP_succ (f : Nat → Pl) (k : Nat) : listP f (k + 1) = listP f k ++ [f k] := by simp [listP, List.range_succ]
theorem plc_one1 (x : Pl) : plc [x] = x.cells := by simp [plc]
/-- An owned row of places, as a row that may be stored to. -/
theorem RowOf.of_own {w : World} {B n : Nat} {v : Value} {f : Nat → Pl} {T : TypeId} (h : w.ownsRow B T 6 v n (plc (listP f n))) : RowOf w T B v n f := by
  obtain ⟨_, h⟩ := h
  rcases h with ⟨rfl, rfl⟩ | ⟨g, cap, cur, rfl, hg, hh, hnc, hcm, hcs, htake⟩
  · exact ⟨none, 0, rfl, Nat.le_refl _, by simp [maxLen], fun hn => by omega⟩
  · refine ⟨_, cap, rfl, hnc, hcm, fun hn => ⟨g, fun j => cur.getD j (.bool false), rfl, hg, ⟨cur, hh, hcs, fun i hi => by simp [Array.getD_eq_getD_getElem?, Array.getElem?_eq_getElem (show i < cur.size by omega)]⟩, fun j hj => ?_⟩⟩
    have h1 : (plc (listP f n))[j]? = some (rowP f j) := by
      have e : j = j / 6 * 6 + j % 6 := by omega
      have hq : j / 6 < n := by omega
      have hm : j % 6 < 6 := by omega
      have := plc_at (listP f n) (j / 6) (j % 6) hm
      rw [← e] at this
      rw [this]
      simp only [listP, List.getElem?_map, List.getElem?_range hq, Option.map_some, Option.bind_some]
      unfold rowP
      rw [List.getD_eq_getElem?_getD, List.getElem?_eq_getElem (show j % 6 < (f (j / 6)).cells.length by simpa [Pl.cells] using hm)]
      rfl
    rw [← htake, List.getElem?_take, if_pos hj, Array.getElem?_toList] at h1
    simp [Array.getD_eq_getD_getElem?, h1]

theorem litN6 (w : World) (cs : Array Value) (e : TypeId) (hs : cs.size = 6) : Sl (w.alloc (.cells cs e)) (w.heap.size + 1) 6 (.slice (some ⟨w.heap.size, 0, none⟩) 1 1) 1 cs.toList := by
  refine ⟨by simpa using hs, _, 1, rfl, Nat.le_refl _, by simp [maxLen], fun _ => ⟨w.heap.size, 0, rfl, by omega, fun j hj => ?_⟩⟩
  simp [go_sem]
set_option maxHeartbeats 3200000 in
theorem ref10_Copy {f : Nat → Pl} {n : Nat} {y : Value} {w : World} {B : Nat} (hn : n ≤ 1000000) (hv : PlRow w B y n f) (hB : B ≤ w.heap.size) :
    Calls Try.prog 33 #[y] w (Gives 74 n (fun i => ownP (f i)) id w) := by
  obtain ⟨A, cap, rfl, h1, h2, h3⟩ := hv
  have HC := Lib.hid h3
  have HCAP := Lib.hid h1
  unfold maxLen at h2
  clear h3
  go_enter Try.func33, Try.ntmps33
  go_wp2
  go_loopw [3, 4] (fun out i wr => ∃ k : Nat, k ≤ n ∧ i = .int .i64 k ∧ Hid (wr.ownsRow w.heap.size 74 6 out k (plc (listP (fun i => ownP (f i)) k))) ∧ Hid (Below w.heap.size w wr)) (fun _ i _ => n - (intOf i).toNat)
  case atStart => exact ⟨0, by omega, rfl, ⟨by simp [plc, listP], .inl ⟨rfl, rfl⟩⟩, Below.refl _ _⟩
  case round =>
    obtain ⟨k, hk, rfl, HO, HB⟩ := hrel
    have hzw := HB.out.size
    by_cases hlt : k < n
    · obtain ⟨b, off, rfl, hb, hc⟩ := HC.out (by omega)
      have g0 : (0 : Int) ≤ (k : Int) := Int.natCast_nonneg _
      have g1 : (k : Int) < (n : Int) := by omega
      have hcx := (hc k hlt).keep (w' := wr) fun p hp => HB.out.cell (by rw [hp]; omega)
      have HX : Hid (∀ x, ownP (f k) = ownP x → plc (listP (fun i => ownP (f i)) (k + 1)) = plc (listP (fun i => ownP (f i)) k) ++ (ownP x).cells) := fun x hx => by
        rw [listP_succ, plc_append, plc_one1, ← hx]
      obtain ⟨x, hx⟩ : ∃ x, x = f k := ⟨_, rfl⟩
      rw [← hx] at hcx HX
      have HX := Lib.hid (HX.out x rfl)
      clear hx
      obtain ⟨u, ⟨a, q, p, st, s⟩⟩ := x
      obtain ⟨c0', c1', c2', c3', c4', c5'⟩ := hcx
      have c0 : wr.cell? ⟨b, off + k * 6, none⟩ = some (.bool u) := c0'
      have c1 : wr.cell? ⟨b, off + k * 6 + 1, none⟩ = some (.int .i64 a) := c1'
      have c2 : wr.cell? ⟨b, off + k * 6 + 2, none⟩ = some (.int .u64 (q : Int)) := c2'
      have c3 : wr.cell? ⟨b, off + k * 6 + 3, none⟩ = some (.int .i64 p) := c3'
      have c4 : wr.cell? ⟨b, off + k * 6 + 4, none⟩ = some (.bool st) := c4'
      have c5 : wr.cell? ⟨b, off + k * 6 + 5, none⟩ = some (.int .u32 (s : Int)) := c5'
      clear c0' c1' c2' c3' c4' c5'
      have hbr : b < wr.heap.size := by omega
      clear hc HC
      cases u
      · go_wp2_with (first
          | (at_builtin; refine wpList_apv _ rfl stPlacesR _ _ rfl w.heap.size _ k _ rfl (own_below HO.out ((Below.refl _ _).alloc (Nat.le_refl _) _)) (wr.heap.size + 1) _ 1 [.bool false, .int .i64 0, .int .u64 0, .int .i64 0, .bool false, .int .u32 0] rfl (litN6 wr #[.bool false, .int .i64 0, .int .u64 0, .int .i64 0, .bool false, .int .u32 0] _ rfl) (by simp [Value.oneCell']) (by omega) (by simp; omega) ?_; intro A2 c2 w2 hown2 hgr2 hat2 hbel2; clear hgr2 hat2))
        have HO2 : Hid (w2.ownsRow w.heap.size 74 6 (.slice A2 (k + 1) c2) (k + 1) (plc (listP (fun i => ownP (f i)) (k + 1)))) := by
          rw [HX.out]; exact hown2
        have HB2 : Hid (Below w.heap.size w w2) := (HB.out.alloc hzw _).trans hbel2
        clear hown2 hbel2
        go_wp2
        go_roundw
        case rel => exact ⟨k + 1, by omega, by go_num, HO2.out, HB2.out⟩
        case measure => simp [intOf]; omega
      · go_wp2_with (first
          | (at_builtin; refine wpList_apv _ rfl stPlacesR _ _ rfl w.heap.size _ k _ rfl (own_below HO.out ((Below.refl _ _).alloc (Nat.le_refl _) _)) (wr.heap.size + 1) _ 1 [.bool true, .int .i64 a, .int .u64 (q : Int), .int .i64 p, .bool st, .int .u32 (s : Int)] rfl (litN6 wr #[.bool true, .int .i64 a, .int .u64 (q : Int), .int .i64 p, .bool st, .int .u32 (s : Int)] _ rfl) (by simp [Value.oneCell']) (by omega) (by simp; omega) ?_; intro A2 c2 w2 hown2 hgr2 hat2 hbel2; clear hgr2 hat2))
        have HO2 : Hid (w2.ownsRow w.heap.size 74 6 (.slice A2 (k + 1) c2) (k + 1) (plc (listP (fun i => ownP (f i)) (k + 1)))) := by
          rw [HX.out]; exact hown2
        have HB2 : Hid (Below w.heap.size w w2) := (HB.out.alloc hzw _).trans hbel2
        clear hown2 hbel2
        go_wp2
        go_roundw
        case rel => exact ⟨k + 1, by omega, by go_num, HO2.out, HB2.out⟩
        case measure => simp [intOf]; omega
    · have : k = n := by omega
      subst this
      go_wp2
      go_ret
      exact ⟨_, rfl, RowOf.of_own HO.out, HB.out⟩
end Go.Proofs.Ytnhooknpknkjkaa
