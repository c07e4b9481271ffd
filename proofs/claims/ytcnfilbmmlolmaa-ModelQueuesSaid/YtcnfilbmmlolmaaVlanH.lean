/-
  Which VLANs may be, of so many ports: the program's Check. No statement is proved here.
-/
import Derived.Test.YtcnfilbmmlolmaaVlanG
import Derived.Test.YtcnfilbmmlolmaaMzA
namespace Go.Proofs.Ytcnfilbmmlolmaa
open Go.RowKit

set_option maxHeartbeats 3200000 in
theorem vlan_Check {l : List Vl} {n : Nat} {v : Value} {w : World} {B : Nat} (hok : ∀ x ∈ l, x.ok) (hv : Sl w B 3 v n (vlc l)) (hB : B ≤ w.heap.size) (ports : Int) :
    Calls Try.prog 38 #[v, .int .i64 ports] w (Says (.int .i64 (checkN l ports n : Nat)) w) := by
  obtain ⟨A, cap, rfl, hcap, hmx⟩ := hv.form
  have hmx' := hmx
  unfold maxLen at hmx'
  by_cases hp : ports < 2 ∨ 64 < ports
  · rw [check5 hp]
    clear hv
    rcases hp with hp | hp
    · go_enter Try.func38, Try.ntmps38
      go_wp2
      go_ret
      exact ⟨rfl, Below.refl _ _⟩
    · have hp2 : ¬ ports < 2 := by omega
      go_enter Try.func38, Try.ntmps38
      go_wp2
      go_ret
      exact ⟨rfl, Below.refl _ _⟩
  · have hp1 : ¬ ports < 2 := by omega
    have hp2 : ¬ 64 < ports := by omega
    by_cases h16 : 16 < n
    · rw [check8 hp h16]
      have h16' : (16 : Int) < (n : Int) := by omega
      clear hv hp
      go_enter Try.func38, Try.ntmps38
      go_wp2
      go_ret
      exact ⟨rfl, Below.refl _ _⟩
    · have h16' : ¬ (16 : Int) < (n : Int) := by omega
      obtain ⟨C, hC⟩ : ∃ C, C = checkN l ports n := ⟨_, rfl⟩
      rw [← hC]
      have HC := Lib.hid hC
      have HP := Lib.hid hp
      have H16 := Lib.hid h16
      have HV := Lib.hid hv
      have HOK := Lib.hid hok
      have hal := allN_lt ports
      have hAll := fun W => vlan_All ports W
      obtain ⟨al, hal0⟩ : ∃ al, al = allN ports := ⟨_, rfl⟩
      rw [← hal0] at hAll hal
      have HALL := Lib.hid hAll
      have HAL := Lib.hid hal0
      clear hC hp h16 hv hok hAll hal0
      go_enter Try.func38, Try.ntmps38
      go_wp2
      go_loopw [5, 19] (fun a i wr => ∃ k : Nat, k ≤ n ∧ i = .int .i64 k ∧ a = .int .i64 (aheadN l k) ∧ Hid (∀ i, i < k → wrongAt l ports i = 0) ∧ Hid (Below w.heap.size w wr)) (fun _ i _ => n - (intOf i).toNat)
      case atStart => exact ⟨0, by omega, rfl, rfl, fun i hi => by omega, Below.refl _ _⟩
      case round =>
        obtain ⟨k, hk, rfl, rfl, HF, HBW⟩ := hrel
        rename_i wr _
        by_cases hlt : k < n
        · obtain ⟨b, off, cap', hvv, _, _, hb, hlen, hcell⟩ := HV.out.vlAt (show 0 < n by omega)
          injection hvv with e1 _ e2
          subst e1 e2
          obtain ⟨c0, c1, c2⟩ := hcell k hlt
          have hbw := (bcell HBW.out).1
          have e0 := (hbw b (off + k * 3) (by omega)).trans c0
          have e1 := (hbw b (off + k * 3 + 1) (by omega)).trans c1
          have e2 := (hbw b (off + k * 3 + 2) (by omega)).trans c2
          have hxok := vl_ok HOK.out k
          have hnext : Hid (aheadN l (k + 1) = (l.getD k vl0).vid) := by show _ = _; unfold aheadN; rw [if_neg (by omega)]; rfl
          obtain ⟨x, hx⟩ : ∃ x, x = l.getD k vl0 := ⟨_, rfl⟩
          obtain ⟨ah, hah⟩ : ∃ ah, ah = aheadN l k := ⟨_, rfl⟩
          have W6a := Lib.hid (@wrong6a l ports k)
          have W6b := Lib.hid (@wrong6b l ports k)
          have W5 := Lib.hid (@wrong5 l ports k)
          have W1 := Lib.hid (@wrong1 l ports k)
          have W0 := Lib.hid (@wrong0 l ports k)
          rw [← hx, ← hah] at W6b W5 W1 W0
          rw [← hx] at W6a e0 e1 e2 hxok hnext
          rw [← HAL.out] at W5 W1 W0
          rw [← hah]
          have hV := fun W => vlan_rightVid x.vid W
          obtain ⟨vb, hvb⟩ : ∃ vb, vb = vidB x.vid := ⟨_, rfl⟩
          rw [← hvb] at hV W6a W6b W5 W1 W0
          have HVV := Lib.hid hV
          have hq1 := u64_andNot_nat x.mem al hxok.2.1 hal
          have hq2 := u64_andNot_nat x.unt x.mem hxok.2.2 hxok.2.1
          have hn1 := andNot_within hxok.2.1 hal
          have hn2 := andNot_within hxok.2.2 hxok.2.1
          generalize x.mem &&& (18446744073709551615 - al) = m1 at *
          generalize x.unt &&& (18446744073709551615 - x.mem) = m2 at *
          have hsz := HBW.out.size
          clear hbw c0 c1 c2 hx hah hvb hV hcell hlen hxok HV HOK HAL
          cases vb
          · have HW : Hid (C = 6) := by show C = 6; rw [HC.out]; exact checkAt HP.out H16.out HF.out hlt (W6a.out rfl) (by omega)
            clear W6a W6b W5 W1 W0 HF hn1 hn2 hq1 hq2
            go_wp2_with fail
            refine (HVV.out _).mono ?_
            rintro e w1 ⟨rfl, rfl⟩
            go_wp2
            go_ret
            exact ⟨ret_i64 (by rw [HW.out]; rfl), HBW.out.alloc hsz _⟩
          · by_cases hle : x.vid ≤ ah
            · have HW : Hid (C = 6) := by show C = 6; rw [HC.out]; exact checkAt HP.out H16.out HF.out hlt (W6b.out rfl hle) (by omega)
              clear W6a W6b W5 W1 W0 HF hn1 hn2 hq1 hq2
              go_wp2_with fail
              refine (HVV.out _).mono ?_
              rintro e w1 ⟨rfl, rfl⟩
              go_wp2
              go_ret
              exact ⟨ret_i64 (by rw [HW.out]; rfl), HBW.out.alloc hsz _⟩
            · cases hw1 : withinB x.mem al
              · have HW : Hid (C = 5) := by show C = 5; rw [HC.out]; exact checkAt HP.out H16.out HF.out hlt (W5.out rfl hle hw1) (by omega)
                rw [hw1] at hn1
                clear W6a W6b W5 W1 W0 HF hn2 hq2 hw1
                go_wp2_with fail
                refine (HVV.out _).mono ?_
                rintro e w1 ⟨rfl, rfl⟩
                go_wp2_with fail
                go_quiet ((go_at_call 77; exact still0 HALL.out _ _))
                go_wp2
                go_ret
                exact ⟨ret_i64 (by rw [HW.out]; rfl), below_drewN (HBW.out.alloc hsz _) _⟩
              · cases hw2 : withinB x.unt x.mem
                · have HW : Hid (C = 1) := by show C = 1; rw [HC.out]; exact checkAt HP.out H16.out HF.out hlt (W1.out rfl hle hw1 hw2) (by omega)
                  rw [hw1] at hn1
                  rw [hw2] at hn2
                  clear W6a W6b W5 W1 W0 HF hw1 hw2
                  go_wp2_with fail
                  refine (HVV.out _).mono ?_
                  rintro e w1 ⟨rfl, rfl⟩
                  go_wp2_with fail
                  go_quiet ((go_at_call 77; exact still0 HALL.out _ _))
                  go_wp2
                  go_ret
                  exact ⟨ret_i64 (by rw [HW.out]; rfl), below_drewN (HBW.out.alloc hsz _) _⟩
                · have HF2 := Lib.hid (all_step HF.out (W0.out rfl hle hw1 hw2))
                  rw [hw1] at hn1
                  rw [hw2] at hn2
                  clear W6a W6b W5 W1 W0 HF hw1 hw2
                  go_wp2_with fail
                  refine (HVV.out _).mono ?_
                  rintro e w1 ⟨rfl, rfl⟩
                  go_wp2_with fail
                  go_quiet ((go_at_call 77; exact still0 HALL.out _ _))
                  go_wp2
                  go_roundw
                  case rel => exact ⟨k + 1, by omega, by go_num, by rw [hnext.out], HF2.out, below_drewN (HBW.out.alloc hsz _) _⟩
                  case measure => simp [intOf]; omega
        · have : k = n := by omega
          subst this
          go_wp2
          go_ret
          exact ⟨ret_i64 (by rw [HC.out, check0 HP.out H16.out HF.out]; rfl), HBW.out⟩
end Go.Proofs.Ytcnfilbmmlolmaa
