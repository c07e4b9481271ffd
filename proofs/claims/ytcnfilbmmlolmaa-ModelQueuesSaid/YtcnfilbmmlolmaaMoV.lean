/-
  Rows of VLANs: no more than can be looked at, and as the program has them (as XVlanF, without the frames). No statement is proved here.
-/
import Derived.Test.YtcnfilbmmlolmaaVlanD
import Derived.Test.YtcnfilbmmlolmaaMzA
import Derived.Deep.RegionHeld3
set_option linter.unusedVariables false
namespace Go.Proofs.Ytcnfilbmmlolmaa
open Go.RowKit

/-- A row of n elements that was just laid, whole. -/
theorem Sl.litN (w : World) (cs : Array Value) (e : TypeId) (n size : Nat) (hs : cs.size = n * size) (hm : n ≤ maxLen) : Sl (w.alloc (.cells cs e)) (w.heap.size + 1) size (.slice (some ⟨w.heap.size, 0, none⟩) n n) n cs.toList := by
  refine ⟨by simpa using hs, _, n, rfl, Nat.le_refl _, hm, fun _ => ⟨w.heap.size, 0, rfl, by omega, fun j hj => ?_⟩⟩
  simp [go_sem]
theorem keep3 {w w' : World} {b o1 o2 o3 : Nat} {v1 v2 v3 : Value} (h : w.cell? ⟨b, o1, none⟩ = some v1 ∧ w.cell? ⟨b, o2, none⟩ = some v2 ∧ w.cell? ⟨b, o3, none⟩ = some v3) (hk : ∀ p : Addr, p.block = b → w'.cell? p = w.cell? p) :
    w'.cell? ⟨b, o1, none⟩ = some v1 ∧ w'.cell? ⟨b, o2, none⟩ = some v2 ∧ w'.cell? ⟨b, o3, none⟩ = some v3 :=
  ⟨(hk _ rfl).trans h.1, (hk _ rfl).trans h.2.1, (hk _ rfl).trans h.2.2⟩
theorem stVlans : ST Try.prog 36 77 (.agg #[.int .i64 0, .int .u64 0, .int .u64 0]) 3 24 := ST.mk Try.underlying36 (by kernel_rfl) rfl (by omega) (by omega)
theorem stVls3 : ST Try.prog 23 108 (.agg #[.int .i64 0, .int .u64 0, .int .u64 0]) 3 24 := ST.mk Try.underlying23 (by kernel_rfl) rfl (by omega) (by omega)

set_option maxHeartbeats 400000 in
theorem law3_Few {A : Option Addr} {n cap : Nat} {w : World} (h1 : n ≤ cap) (h2 : cap ≤ maxLen) :
    Calls Try.prog 8 #[.slice A n cap] w fun e w' => e = .returned (.slice A (min n 20) cap) ∧ w = w' := by
  obtain ⟨K, hK⟩ : ∃ K, K = min n 20 := ⟨_, rfl⟩
  have hif : (if (20 : Int) < (n : Int) then (20 : Int) else (n : Int)) = (K : Int) := by split <;> omega
  have hcut := fun u => run_cutTo (P := Try.prog) u stVls3 A n cap K (by omega)
  rw [← hK]
  have h3 := h2
  unfold maxLen at h3
  have HK := Lib.hid hK
  clear hK
  go_enter Try.func8, Try.ntmps8
  go_wp2
  go_ret
  exact ⟨rfl, rfl⟩

set_option maxHeartbeats 1600000 in
theorem law3_To {l : List Vl} {n : Nat} {v : Value} {w : World} {B : Nat} (hn : n ≤ 20) (hv : Sl w B 3 v n (vlc l)) (hB : B ≤ w.heap.size) :
    Calls Try.prog 36 #[v] w fun e w' => ∃ u, e = .returned u ∧ w'.ownsRow w.heap.size 77 3 u n (vlc l) ∧ Below w.heap.size w w' := by
  by_cases hn0 : 0 < n
  · obtain ⟨b, off, cap, rfl, hcap, hmx, hb, hlen, hcell⟩ := hv.vlAt hn0
    unfold maxLen at hmx
    have HC := Lib.hid hcell
    have HL := Lib.hid hlen
    clear hv hcell hlen
    go_enter Try.func36, Try.ntmps36
    go_wp2
    go_loopw [3, 4] (fun o i wr => ∃ k : Nat, k ≤ n ∧ i = .int .i64 k ∧ Hid (wr.ownsRow w.heap.size 77 3 o k (vlc (l.take k))) ∧ Hid (Below w.heap.size w wr)) (fun _ i _ => n - (intOf i).toNat)
    case atStart => exact ⟨0, by omega, rfl, ⟨by simp [vlc], .inl ⟨rfl, rfl⟩⟩, Below.refl _ _⟩
    case round =>
      rename_i o _ _
      obtain ⟨k, hk, rfl, HO, HBW⟩ := hrel
      rename_i wr _
      by_cases hlt : k < n
      · obtain ⟨c0, c1, c2⟩ := HC.out k hlt
        have hbw := (bcell HBW.out).1
        have e0 := (hbw b (off + k * 3) (by omega)).trans c0
        have e1 := (hbw b (off + k * 3 + 1) (by omega)).trans c1
        have e2 := (hbw b (off + k * 3 + 2) (by omega)).trans c2
        obtain ⟨x, hx⟩ : ∃ x, x = l.getD k vl0 := ⟨_, rfl⟩
        rw [← hx] at e0 e1 e2
        have HX : Hid (vlc (l.take k) ++ [.int .i64 x.vid, .int .u64 (x.mem : Nat), .int .u64 (x.unt : Nat)] = vlc (l.take (k + 1))) := by
          have hkl : k < l.length := by have := HL.out; omega
          show _ = _
          rw [List.take_succ_eq_append_getElem hkl, vlc_append, hx]
          simp [vlc, Vl.cells, List.getD_eq_getElem?_getD, List.getElem?_eq_getElem hkl]
        have g0 : (0 : Int) ≤ (k : Int) := Int.natCast_nonneg _
        have g1 : (k : Int) < (n : Int) := by omega
        have hzw := HBW.out.size
        clear hbw c0 c1 c2 hx HC
        go_wp2
        have hbr : b < wr.heap.size := by omega
        have hbw : b < w.heap.size := by omega
        go_region_held3 (fun w' => w'.cell? ⟨b, off + k * 3, none⟩ = some (.int .i64 x.vid) ∧ w'.cell? ⟨b, off + k * 3 + 1, none⟩ = some (.int .u64 (x.mem : Nat)) ∧ w'.cell? ⟨b, off + k * 3 + 2, none⟩ = some (.int .u64 (x.unt : Nat)))
          (first | (with_reducible exact keep3 (by assumption) (fun p hp => hbel2.cell (by rw [hp]; exact hbw))) | (with_reducible exact keep3 (by assumption) (fun p hp => World.cell?_alloc_lt _ _ _ (by rw [hp]; exact hbr))) | go_keep)
          ((refine step_app _ (by rfl) stVlans _ _ (by rfl) w.heap.size u3 k _ (by rfl) ((HO.out.alloc _).drew) (wr.heap.size + 1) _ 1 [.int .i64 x.vid, .int .u64 (x.mem : Nat), .int .u64 (x.unt : Nat)] (by rfl) ((Sl.litN wr #[.int .i64 x.vid, .int .u64 (x.mem : Nat), .int .u64 (x.unt : Nat)] _ 1 3 rfl (by decide)).drew) (by simp [Value.oneCell']) (by omega) (by simp; omega) ?_; intro v2 w2 hown2 hgr2 hat2 hbel2))
        all_goals
          rw [HX.out] at hown2
          have HO2 := Lib.hid hown2
          have HB2 := Lib.hid ((HBW.out.alloc hzw (.cells #[.int .i64 x.vid, .int .u64 (x.mem : Nat), .int .u64 (x.unt : Nat)] 77)).drew.trans hbel2)
          clear hown2 hgr2 hat2 hbel2
          go_wp2
          go_roundw
          case rel => exact ⟨k + 1, by omega, by go_num, HO2.out, HB2.out⟩
          case measure => simp [intOf]; omega
      · have : k = n := by omega
        subst this
        go_wp2
        go_ret
        refine ⟨_, rfl, ?_, HBW.out⟩
        have := HO.out
        rw [List.take_of_length_le (by have := HL.out; omega)] at this
        exact this
  · obtain rfl : n = 0 := by omega
    have hl : l = [] := List.eq_nil_of_length_eq_zero hv.vlLen
    subst hl
    obtain ⟨A, cap, rfl, hcap, hmx⟩ := hv.form
    clear hv hn0
    go_enter Try.func36, Try.ntmps36
    go_wp2
    go_loopw [3, 4] (fun o i wr => i = .int .i64 0 ∧ o = .slice none 0 0 ∧ wr = w) (fun _ _ _ => 0)
    case atStart => exact ⟨rfl, rfl, rfl⟩
    case round =>
      obtain ⟨rfl, rfl, rfl⟩ := hrel
      go_wp2
      go_ret
      exact ⟨_, rfl, World.ownsRow_nil _ _ _ _, Below.refl _ _⟩
end Go.Proofs.Ytcnfilbmmlolmaa
