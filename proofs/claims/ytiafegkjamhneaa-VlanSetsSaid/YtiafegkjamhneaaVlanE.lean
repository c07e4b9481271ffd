/-
  Whether frames may come in at a port, and at which ones they may go out: the program's Enter and Leave, and the document's. No statement is proved here.
-/
import Derived.Test.YtiafegkjamhneaaVlanD
namespace Go.Proofs.Ytiafegkjamhneaa
open Go.RowKit

theorem enter7 {l : List Vl} {vid port : Int} {n : Nat} (h : findN l vid n < 0) : enterN l vid port n = 7 := by unfold enterN; rw [if_pos h]
theorem enterB {l : List Vl} {vid port : Int} {n j : Nat} (h : findN l vid n = (j : Int)) : enterN l vid port n = if hasB (l.getD j vl0).mem port = true then 0 else 8 := by
  unfold enterN; rw [h, if_neg (by omega), Int.toNat_natCast]
theorem leave0 {l : List Vl} {vid port : Int} {n : Nat} (h : findN l vid n < 0) : leaveN l vid port n = 0 := by unfold leaveN; rw [if_pos h]
theorem leaveB {l : List Vl} {vid port : Int} {n j : Nat} (h : findN l vid n = (j : Int)) : leaveN l vid port n = withoutN (l.getD j vl0).mem port := by
  unfold leaveN; rw [h, if_neg (by omega), Int.toNat_natCast]

set_option maxHeartbeats 800000 in
theorem vlan_Enter {l : List Vl} {n : Nat} {v : Value} {w : World} {B : Nat} (hok : ∀ x ∈ l, x.ok) (hv : Sl w B 3 v n (vlc l)) (hB : B ≤ w.heap.size) (vid port : Int) :
    Calls Try.prog 37 #[v, .int .i64 vid, .int .i64 port] w (Says (.int .i64 (enterN l vid port n : Nat)) w) := by
  have hF := vlan_Find hv hB vid
  have hbd := firstI_bd (vidAt l vid) n
  change -1 ≤ findN l vid n ∧ findN l vid n < n at hbd
  obtain ⟨p, hp⟩ : ∃ p, p = findN l vid n := ⟨_, rfl⟩
  rw [← hp] at hF hbd
  have HF := Lib.hid hF
  clear hF
  rcases (show p < 0 ∨ 0 ≤ p by omega) with h | h
  · rw [enter7 (by rw [← hp]; exact h)]
    clear hp hbd hv
    go_enter Try.func37, Try.ntmps37
    go_wp2_with fail
    refine HF.out.mono ?_
    rintro e w1 ⟨rfl, hb1⟩
    have HB := Lib.hid hb1
    clear hb1
    go_wp2
    go_ret
    exact ⟨rfl, HB.out⟩
  · obtain ⟨j, rfl⟩ := Int.eq_ofNat_of_zero_le h
    have hj : j < n := by omega
    rw [enterB hp.symm]
    obtain ⟨b, off, cap, rfl, hcap, hmx, hb, hlen, hcell⟩ := hv.vlAt (show 0 < n by omega)
    unfold maxLen at hmx
    obtain ⟨c0, c1, c2⟩ := hcell j hj
    obtain ⟨x, hx⟩ : ∃ x, x = l.getD j vl0 := ⟨_, rfl⟩
    have hxok := vl_ok hok j
    rw [← hx] at c1 hxok ⊢
    have hM := fun W => vlan_Has x.mem hxok.2.1 port W
    have g0 : (0 : Int) ≤ (j : Int) := Int.natCast_nonneg _
    have g1 : (j : Int) < (n : Int) := by omega
    cases hr : hasB x.mem port
    all_goals
      rw [hr] at hM
      have HM := Lib.hid hM
      have HC := Lib.hid c1
      clear hM c0 c1 c2 hcell hp hbd hv hx hr hxok hlen
      go_enter Try.func37, Try.ntmps37
      go_wp2_with fail
      refine HF.out.mono ?_
      rintro e w1 ⟨rfl, hb1⟩
      have e1 := ((bcell hb1).1 b (off + j * 3 + 1) (by omega)).trans HC.out
      have HB := Lib.hid hb1
      clear hb1
      go_wp2_with fail
      refine (HM.out _).mono ?_
      rintro e w2 ⟨rfl, rfl⟩
      go_wp2
      go_ret
      exact ⟨rfl, HB.out⟩

set_option maxHeartbeats 800000 in
theorem ref3_Enter {l : List Vl} {n : Nat} {v : Value} {w : World} {B : Nat} (hok : ∀ x ∈ l, x.ok) (hv : Sl w B 3 v n (vlc l)) (hB : B ≤ w.heap.size) (vid port : Int) :
    Calls Try.prog 38 #[v, .int .i64 vid, .int .i64 port] w (Says (.int .i64 (enterN l vid port n : Nat)) w) := by
  have hF := ref3_Find hv hB vid
  have hbd := firstI_bd (vidAt l vid) n
  change -1 ≤ findN l vid n ∧ findN l vid n < n at hbd
  obtain ⟨p, hp⟩ : ∃ p, p = findN l vid n := ⟨_, rfl⟩
  rw [← hp] at hF hbd
  have HF := Lib.hid hF
  clear hF
  rcases (show p < 0 ∨ 0 ≤ p by omega) with h | h
  · rw [enter7 (by rw [← hp]; exact h)]
    clear hp hbd hv
    go_enter Try.func38, Try.ntmps38
    go_wp2_with fail
    refine HF.out.mono ?_
    rintro e w1 ⟨rfl, hb1⟩
    have HB := Lib.hid hb1
    clear hb1
    go_wp2
    go_ret
    exact ⟨rfl, HB.out⟩
  · obtain ⟨j, rfl⟩ := Int.eq_ofNat_of_zero_le h
    have hj : j < n := by omega
    rw [enterB hp.symm]
    obtain ⟨b, off, cap, rfl, hcap, hmx, hb, hlen, hcell⟩ := hv.vlAt (show 0 < n by omega)
    unfold maxLen at hmx
    obtain ⟨c0, c1, c2⟩ := hcell j hj
    obtain ⟨x, hx⟩ : ∃ x, x = l.getD j vl0 := ⟨_, rfl⟩
    have hxok := vl_ok hok j
    rw [← hx] at c1 hxok ⊢
    have hM := fun W => ref3_Has x.mem hxok.2.1 port W
    have g0 : (0 : Int) ≤ (j : Int) := Int.natCast_nonneg _
    have g1 : (j : Int) < (n : Int) := by omega
    cases hr : hasB x.mem port
    all_goals
      rw [hr] at hM
      have HM := Lib.hid hM
      have HC := Lib.hid c1
      clear hM c0 c1 c2 hcell hp hbd hv hx hr hxok hlen
      go_enter Try.func38, Try.ntmps38
      go_wp2_with fail
      refine HF.out.mono ?_
      rintro e w1 ⟨rfl, hb1⟩
      have e1 := ((bcell hb1).1 b (off + j * 3 + 1) (by omega)).trans HC.out
      have HB := Lib.hid hb1
      clear hb1
      go_wp2_with fail
      refine (HM.out _).mono ?_
      rintro e w2 ⟨rfl, rfl⟩
      go_wp2
      go_ret
      exact ⟨rfl, HB.out⟩

set_option maxHeartbeats 800000 in
theorem vlan_Leave {l : List Vl} {n : Nat} {v : Value} {w : World} {B : Nat} (hok : ∀ x ∈ l, x.ok) (hv : Sl w B 3 v n (vlc l)) (hB : B ≤ w.heap.size) (vid port : Int) :
    Calls Try.prog 35 #[v, .int .i64 vid, .int .i64 port] w (Says (.int .u64 (leaveN l vid port n : Nat)) w) := by
  have hF := vlan_Find hv hB vid
  have hbd := firstI_bd (vidAt l vid) n
  change -1 ≤ findN l vid n ∧ findN l vid n < n at hbd
  obtain ⟨p, hp⟩ : ∃ p, p = findN l vid n := ⟨_, rfl⟩
  rw [← hp] at hF hbd
  have HF := Lib.hid hF
  clear hF
  rcases (show p < 0 ∨ 0 ≤ p by omega) with h | h
  · rw [leave0 (by rw [← hp]; exact h)]
    clear hp hbd hv
    go_enter Try.func35, Try.ntmps35
    go_wp2_with fail
    refine HF.out.mono ?_
    rintro e w1 ⟨rfl, hb1⟩
    have HB := Lib.hid hb1
    clear hb1
    go_wp2
    go_ret
    exact ⟨rfl, HB.out⟩
  · obtain ⟨j, rfl⟩ := Int.eq_ofNat_of_zero_le h
    have hj : j < n := by omega
    rw [leaveB hp.symm]
    obtain ⟨b, off, cap, rfl, hcap, hmx, hb, hlen, hcell⟩ := hv.vlAt (show 0 < n by omega)
    unfold maxLen at hmx
    obtain ⟨c0, c1, c2⟩ := hcell j hj
    obtain ⟨x, hx⟩ : ∃ x, x = l.getD j vl0 := ⟨_, rfl⟩
    have hxok := vl_ok hok j
    rw [← hx] at c1 hxok ⊢
    have hM := fun W => vlan_Without x.mem hxok.2.1 port W
    have g0 : (0 : Int) ≤ (j : Int) := Int.natCast_nonneg _
    have g1 : (j : Int) < (n : Int) := by omega
    generalize withoutN x.mem port = y at *
    have HM := Lib.hid hM
    have HC := Lib.hid c1
    clear hM c0 c1 c2 hcell hp hbd hv hx hxok hlen
    go_enter Try.func35, Try.ntmps35
    go_wp2_with fail
    refine HF.out.mono ?_
    rintro e w1 ⟨rfl, hb1⟩
    have e1 := ((bcell hb1).1 b (off + j * 3 + 1) (by omega)).trans HC.out
    have HB := Lib.hid hb1
    clear hb1
    go_wp2_with fail
    refine (HM.out _).mono ?_
    rintro e w2 ⟨rfl, rfl⟩
    go_wp2
    go_ret
    exact ⟨rfl, HB.out⟩

set_option maxHeartbeats 800000 in
theorem ref3_Leave {l : List Vl} {n : Nat} {v : Value} {w : World} {B : Nat} (hok : ∀ x ∈ l, x.ok) (hv : Sl w B 3 v n (vlc l)) (hB : B ≤ w.heap.size) (vid port : Int) :
    Calls Try.prog 39 #[v, .int .i64 vid, .int .i64 port] w (Says (.int .u64 (leaveN l vid port n : Nat)) w) := by
  have hF := ref3_Find hv hB vid
  have hbd := firstI_bd (vidAt l vid) n
  change -1 ≤ findN l vid n ∧ findN l vid n < n at hbd
  obtain ⟨p, hp⟩ : ∃ p, p = findN l vid n := ⟨_, rfl⟩
  rw [← hp] at hF hbd
  have HF := Lib.hid hF
  clear hF
  rcases (show p < 0 ∨ 0 ≤ p by omega) with h | h
  · rw [leave0 (by rw [← hp]; exact h)]
    clear hp hbd hv
    go_enter Try.func39, Try.ntmps39
    go_wp2_with fail
    refine HF.out.mono ?_
    rintro e w1 ⟨rfl, hb1⟩
    have HB := Lib.hid hb1
    clear hb1
    go_wp2
    go_ret
    exact ⟨rfl, HB.out⟩
  · obtain ⟨j, rfl⟩ := Int.eq_ofNat_of_zero_le h
    have hj : j < n := by omega
    rw [leaveB hp.symm]
    obtain ⟨b, off, cap, rfl, hcap, hmx, hb, hlen, hcell⟩ := hv.vlAt (show 0 < n by omega)
    unfold maxLen at hmx
    obtain ⟨c0, c1, c2⟩ := hcell j hj
    obtain ⟨x, hx⟩ : ∃ x, x = l.getD j vl0 := ⟨_, rfl⟩
    have hxok := vl_ok hok j
    rw [← hx] at c1 hxok ⊢
    have hM := fun W => ref3_Without x.mem hxok.2.1 port W
    have g0 : (0 : Int) ≤ (j : Int) := Int.natCast_nonneg _
    have g1 : (j : Int) < (n : Int) := by omega
    generalize withoutN x.mem port = y at *
    have HM := Lib.hid hM
    have HC := Lib.hid c1
    clear hM c0 c1 c2 hcell hp hbd hv hx hxok hlen
    go_enter Try.func39, Try.ntmps39
    go_wp2_with fail
    refine HF.out.mono ?_
    rintro e w1 ⟨rfl, hb1⟩
    have e1 := ((bcell hb1).1 b (off + j * 3 + 1) (by omega)).trans HC.out
    have HB := Lib.hid hb1
    clear hb1
    go_wp2_with fail
    refine (HM.out _).mono ?_
    rintro e w2 ⟨rfl, rfl⟩
    go_wp2
    go_ret
    exact ⟨rfl, HB.out⟩
end Go.Proofs.Ytiafegkjamhneaa
