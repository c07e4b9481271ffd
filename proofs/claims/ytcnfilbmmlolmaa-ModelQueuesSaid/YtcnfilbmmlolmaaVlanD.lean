/-
  Where a VLAN of a number stands in a row of VLANs: the program's Find and the document's. No statement is proved here.
-/
import Derived.Test.YtcnfilbmmlolmaaVlanA
import Derived.Test.YtcnfilbmmlolmaaMzA
namespace Go.Proofs.Ytcnfilbmmlolmaa
open Go.RowKit

set_option maxHeartbeats 800000 in
theorem vlan_Find {l : List Vl} {n : Nat} {v : Value} {w : World} {B : Nat} (hv : Sl w B 3 v n (vlc l)) (hB : B ≤ w.heap.size) (vid : Int) :
    Calls Try.prog 81 #[v, .int .i64 vid] w (Says (.int .i64 (findN l vid n)) w) := by
  by_cases hn0 : 0 < n
  · obtain ⟨b, off, cap, rfl, hcap, hmx, hb, hlen, hcell⟩ := hv.vlAt hn0
    unfold maxLen at hmx
    have HC := Lib.hid hcell
    have HV := Lib.hid hv
    clear hv hcell hlen
    go_enter Try.func81, Try.ntmps81
    go_wp2
    go_loopw [9] (fun i wr => ∃ k : Nat, k ≤ n ∧ i = .int .i64 k ∧ Hid (∀ i, i < k → vidAt l vid i = false) ∧ Hid (Below w.heap.size w wr)) (fun i _ => n - (intOf i).toNat)
    case atStart => exact ⟨0, by omega, rfl, fun i hi => by omega, Below.refl _ _⟩
    case round =>
      obtain ⟨k, hk, rfl, HF, HBW⟩ := hrel
      rename_i wr _
      by_cases hlt : k < n
      · obtain ⟨c0, c1, c2⟩ := HC.out k hlt
        have hbw := (bcell HBW.out).1
        have e0 := (hbw b (off + k * 3) (by omega)).trans c0
        have e1 := (hbw b (off + k * 3 + 1) (by omega)).trans c1
        have e2 := (hbw b (off + k * 3 + 2) (by omega)).trans c2
        obtain ⟨x, hx⟩ : ∃ x, x = l.getD k vl0 := ⟨_, rfl⟩
        rw [← hx] at e0 e1 e2
        have hvid : vidAt l vid k = (x.vid == vid) := by unfold vidAt; rw [← hx]
        have HVID := Lib.hid hvid
        clear hbw c0 c1 c2 hx hvid HC
        cases hxv : x.vid == vid
        · rw [hxv] at HVID
          have hne : ¬ x.vid = vid := by simpa using hxv
          clear hxv
          go_wp2
          go_roundw
          case rel => exact ⟨k + 1, by omega, by go_num, fun i hi => by
              rcases Nat.lt_or_ge i k with h | h
              · exact HF.out i h
              · obtain rfl : i = k := by omega
                exact HVID.out, HBW.out.alloc HBW.out.size _⟩
          case measure => simp [intOf]; omega
        · rw [hxv] at HVID
          have heq : x.vid = vid := by simpa using hxv
          clear hxv
          go_wp2
          go_ret
          exact ⟨ret_i64 (by unfold findN; rw [firstI_at _ k HF.out HVID.out n hlt]), HBW.out.alloc HBW.out.size _⟩
      · have : k = n := by omega
        subst this
        go_wp2
        go_ret
        exact ⟨ret_i64 (by unfold findN; rw [firstI_none _ _ HF.out]), HBW.out⟩
  · obtain rfl : n = 0 := by omega
    obtain ⟨A, cap, rfl, hcap, hmx⟩ := hv.form
    clear hv hn0
    go_enter Try.func81, Try.ntmps81
    go_wp2
    go_loopw [9] (fun i wr => i = .int .i64 0 ∧ wr = w) (fun _ _ => 0)
    case atStart => exact ⟨rfl, rfl⟩
    case round =>
      obtain ⟨rfl, rfl⟩ := hrel
      go_wp2
      go_ret
      exact ⟨rfl, Below.refl _ _⟩
end Go.Proofs.Ytcnfilbmmlolmaa
