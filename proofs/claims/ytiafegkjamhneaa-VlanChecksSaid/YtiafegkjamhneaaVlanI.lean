/-
  Which VLANs may be, of so many ports: the document's Check. No statement is proved here.
-/
import Derived.Test.YtiafegkjamhneaaVlanH
namespace Go.Proofs.Ytiafegkjamhneaa
open Go.RowKit

set_option maxHeartbeats 6400000 in
theorem ref3_Check {l : List Vl} {n : Nat} {v : Value} {w : World} {B : Nat} (hok : ∀ x ∈ l, x.ok) (hv : Sl w B 3 v n (vlc l)) (ports : Int) :
    Calls Try.prog 50 #[v, .int .i64 ports] w (Says (.int .i64 (checkN l ports n : Nat)) w) := by
  obtain ⟨A, cap, rfl, hcap, hmx⟩ := hv.form
  have hmx' := hmx
  unfold maxLen at hmx'
  by_cases hp : ports < 2 ∨ 64 < ports
  · rw [check5 hp]
    clear hv
    rcases hp with hp | hp
    · go_enter Try.func50, Try.ntmps50
      go_wp2
      go_ret
      exact ⟨rfl, Below.refl _ _⟩
    · have hp2 : ¬ ports < 2 := by omega
      go_enter Try.func50, Try.ntmps50
      go_wp2
      go_ret
      exact ⟨rfl, Below.refl _ _⟩
  · have hp1 : ¬ ports < 2 := by omega
    have hp2 : ¬ 64 < ports := by omega
    by_cases h16 : 16 < n
    · rw [check8 hp h16]
      have h16' : (16 : Int) < (n : Int) := by omega
      clear hv hp
      go_enter Try.func50, Try.ntmps50
      go_wp2
      go_ret
      exact ⟨rfl, Below.refl _ _⟩
    · have h16' : ¬ (16 : Int) < (n : Int) := by omega
      obtain ⟨C, hC⟩ : ∃ C, C = checkN l ports n := ⟨_, rfl⟩
      rw [← hC]
      have HC := Lib.hid hC
      have HP := Lib.hid hp
      have H16 := Lib.hid h16
      have HV := Lib.hid hv
      have HOK := Lib.hid hok
      have hal := allN_lt ports
      have hAll := fun W => ref3_All ports W
      obtain ⟨al, hal0⟩ : ∃ al, al = allN ports := ⟨_, rfl⟩
      rw [← hal0] at hAll hal
      have HALL := Lib.hid hAll
      have HAL := Lib.hid hal0
      have HALT := Lib.hid hal
      clear hC hp h16 hv hok hAll hal0 hal
      go_enter Try.func50, Try.ntmps50
      go_wp2
      go_loopw [5] (fun i wr => ∃ k : Nat, k ≤ n ∧ i = .int .i64 k ∧ Hid (∀ i, i < k → wrongAt l ports i = 0) ∧ ∃ m, wr = w.drewN m) (fun i _ => n - (intOf i).toNat)
      case atStart => exact ⟨0, by omega, rfl, fun i hi => by omega, 0, rfl⟩
      case round =>
        obtain ⟨k, hk, rfl, HF, m, rfl⟩ := hrel
        by_cases hlt : k < n
        · obtain ⟨b, off, cap', hvv, _, _, hb, hlen, hcell⟩ := HV.out.vlAt (show 0 < n by omega)
          injection hvv with e1 _ e2
          subst e1 e2
          obtain ⟨c0, c1, c2⟩ := hcell k hlt
          have hxok := vl_ok HOK.out k
          obtain ⟨x, hx⟩ : ∃ x, x = l.getD k vl0 := ⟨_, rfl⟩
          obtain ⟨ah, hah⟩ : ∃ ah, ah = aheadN l k := ⟨_, rfl⟩
          have W6a := Lib.hid (@wrong6a l ports k)
          have W6b := Lib.hid (@wrong6b l ports k)
          have W5 := Lib.hid (@wrong5 l ports k)
          have W1 := Lib.hid (@wrong1 l ports k)
          have W0 := Lib.hid (@wrong0 l ports k)
          rw [← hx, ← hah] at W6b W5 W1 W0
          rw [← hx] at W6a c0 c1 c2 hxok
          rw [← HAL.out] at W5 W1 W0
          have hWA := fun W => ref3_Within x.mem al hxok.2.1 HALT.out W
          have hWB := fun W => ref3_Within x.unt x.mem hxok.2.2 hxok.2.1 W
          have g0 : (0 : Int) ≤ (k : Int) := Int.natCast_nonneg _
          have g1 : (k : Int) < (n : Int) := by omega
          have hvbd : vidB x.vid = (decide (1 ≤ x.vid) && decide (x.vid ≤ 4094)) := rfl
          obtain ⟨vb, hvb⟩ : ∃ vb, vb = vidB x.vid := ⟨_, rfl⟩
          rw [← hvb] at hvbd W6a W6b W5 W1 W0
          have hah0 : k = 0 → ah = 0 := fun h => by rw [hah]; unfold aheadN; rw [if_pos h]
          have hah1 : 0 < k → ah = (l.getD (k - 1) vl0).vid := fun h => by rw [hah]; unfold aheadN; rw [if_neg (by omega)]
          have hp0 := fun h : 0 < k => (hcell (k - 1) (by omega)).1
          clear hx hah hvb hcell hlen hxok HV HOK HAL
          cases vb
          · have HW : Hid (C = 6) := by show C = 6; rw [HC.out]; exact checkAt HP.out H16.out HF.out hlt (W6a.out rfl) (by omega)
            by_cases h1 : x.vid < 1
            · have hd1 : decide (x.vid < 1) = true := by simp; omega
              clear hvbd hah0 hah1 hp0
              clear W6a W6b W5 W1 W0 HF hWA hWB
              go_wp2_with fail
              go_quiet (fail)
              go_wp2
              go_ret
              exact ⟨ret_i64 (by rw [HW.out]; rfl), (by repeat' (first | exact Below.refl _ _ | refine below_drewN ?_ _))⟩
            · have h2 : 4094 < x.vid := by simp at hvbd; omega
              have hd1 : decide (x.vid < 1) = false := by simp; omega
              have hd2 : decide (4094 < x.vid) = true := by simp; omega
              clear hvbd hah0 hah1 hp0
              clear W6a W6b W5 W1 W0 HF hWA hWB
              go_wp2_with fail
              go_quiet (fail)
              go_wp2
              go_ret
              exact ⟨ret_i64 (by rw [HW.out]; rfl), (by repeat' (first | exact Below.refl _ _ | refine below_drewN ?_ _))⟩
          · have hv1 : 1 ≤ x.vid := by simp at hvbd; omega
            have hv2 : x.vid ≤ 4094 := by simp at hvbd; omega
            have hd1 : decide (x.vid < 1) = false := by simp; omega
            have hd2 : decide (4094 < x.vid) = false := by simp; omega
            clear hvbd
            rcases Nat.eq_zero_or_pos k with hk0 | hk0
            · have hle : ¬ x.vid ≤ ah := by have := hah0 hk0; omega
              have hd3 : decide (0 < k) = false := by simp; omega
              clear hah0 hah1 hp0 hk0
              cases hw1 : withinB x.mem al
              · have HW : Hid (C = 5) := by show C = 5; rw [HC.out]; exact checkAt HP.out H16.out HF.out hlt (W5.out rfl hle hw1) (by omega)
                have KW1 := hWA
                rw [hw1] at KW1
                have KW1 := Lib.hid KW1
                clear W6a W6b W5 W1 W0 HF hw1 hWA hWB
                go_wp2_with fail
                go_quiet (fail)
                go_wp2_with fail
                go_quiet (first | (go_at_call 48; with_reducible exact still1 HALL.out _ _ _) | (go_at_call 78; with_reducible exact still1 KW1.out _ _ _))
                go_wp2
                go_ret
                exact ⟨ret_i64 (by rw [HW.out]; rfl), (by repeat' (first | exact Below.refl _ _ | refine below_drewN ?_ _))⟩
              · have KW1 := hWA
                rw [hw1] at KW1
                have KW1 := Lib.hid KW1
                cases hw2 : withinB x.unt x.mem
                · have HW : Hid (C = 1) := by show C = 1; rw [HC.out]; exact checkAt HP.out H16.out HF.out hlt (W1.out rfl hle hw1 hw2) (by omega)
                  have KW2 := hWB
                  rw [hw2] at KW2
                  have KW2 := Lib.hid KW2
                  clear W6a W6b W5 W1 W0 HF hw1 hw2 hWA hWB
                  go_wp2_with fail
                  go_quiet (fail)
                  go_wp2_with fail
                  go_quiet (first | (go_at_call 48; with_reducible exact still1 HALL.out _ _ _) | (go_at_call 78; with_reducible exact still1 KW1.out _ _ _))
                  go_wp2_with fail
                  go_quiet ((go_at_call 78; with_reducible exact still1 KW2.out _ _ _))
                  go_wp2
                  go_ret
                  exact ⟨ret_i64 (by rw [HW.out]; rfl), (by repeat' (first | exact Below.refl _ _ | refine below_drewN ?_ _))⟩
                · have HF2 := Lib.hid (all_step HF.out (W0.out rfl hle hw1 hw2))
                  have KW2 := hWB
                  rw [hw2] at KW2
                  have KW2 := Lib.hid KW2
                  clear W6a W6b W5 W1 W0 HF hw1 hw2 hWA hWB
                  go_wp2_with fail
                  go_quiet (fail)
                  go_wp2_with fail
                  go_quiet (first | (go_at_call 48; with_reducible exact still1 HALL.out _ _ _) | (go_at_call 78; with_reducible exact still1 KW1.out _ _ _))
                  go_wp2_with fail
                  go_quiet ((go_at_call 78; with_reducible exact still1 KW2.out _ _ _))
                  go_wp2
                  go_roundw
                  case rel => exact ⟨k + 1, by omega, by go_num, HF2.out, _, (by first | rfl | exact World.drewN_drewN _ _ _)⟩
                  case measure => simp [intOf]; omega
            · have hpc := hp0 hk0
              have ha := hah1 hk0
              rw [← ha] at hpc
              obtain ⟨j, hj⟩ : ∃ j, j = k - 1 := ⟨_, rfl⟩
              rw [← hj] at hpc
              have hw : IntKind.i64.wrap ((k : Int) - 1) = (j : Int) := by rw [IntWalk.i64_in _ (by omega)]; omega
              have hw2 : (k : Int) - 1 = (j : Int) := by omega
              have j0 : (0 : Int) ≤ (j : Int) := Int.natCast_nonneg _
              have j1 : (j : Int) < (n : Int) := by omega
              have hd3 : decide (0 < k) = true := by simp; omega
              clear hah0 hah1 hp0 ha hj
              by_cases hle : x.vid ≤ ah
              · have HW : Hid (C = 6) := by show C = 6; rw [HC.out]; exact checkAt HP.out H16.out HF.out hlt (W6b.out rfl hle) (by omega)
                have hd5 : decide (x.vid ≤ ah) = true := by simp; omega
                clear W6a W6b W5 W1 W0 HF hWA hWB
                go_wp2_with fail
                go_quiet (fail)
                go_wp2
                go_ret
                exact ⟨ret_i64 (by rw [HW.out]; rfl), (by repeat' (first | exact Below.refl _ _ | refine below_drewN ?_ _))⟩
              · have hd5 : decide (x.vid ≤ ah) = false := by simp; omega
                cases hw1 : withinB x.mem al
                · have HW : Hid (C = 5) := by show C = 5; rw [HC.out]; exact checkAt HP.out H16.out HF.out hlt (W5.out rfl hle hw1) (by omega)
                  have KW1 := hWA
                  rw [hw1] at KW1
                  have KW1 := Lib.hid KW1
                  clear W6a W6b W5 W1 W0 HF hw1 hWA hWB
                  go_wp2_with fail
                  go_quiet (fail)
                  go_wp2_with fail
                  go_quiet (first | (go_at_call 48; with_reducible exact still1 HALL.out _ _ _) | (go_at_call 78; with_reducible exact still1 KW1.out _ _ _))
                  go_wp2
                  go_ret
                  exact ⟨ret_i64 (by rw [HW.out]; rfl), (by repeat' (first | exact Below.refl _ _ | refine below_drewN ?_ _))⟩
                · have KW1 := hWA
                  rw [hw1] at KW1
                  have KW1 := Lib.hid KW1
                  cases hw2 : withinB x.unt x.mem
                  · have HW : Hid (C = 1) := by show C = 1; rw [HC.out]; exact checkAt HP.out H16.out HF.out hlt (W1.out rfl hle hw1 hw2) (by omega)
                    have KW2 := hWB
                    rw [hw2] at KW2
                    have KW2 := Lib.hid KW2
                    clear W6a W6b W5 W1 W0 HF hw1 hw2 hWA hWB
                    go_wp2_with fail
                    go_quiet (fail)
                    go_wp2_with fail
                    go_quiet (first | (go_at_call 48; with_reducible exact still1 HALL.out _ _ _) | (go_at_call 78; with_reducible exact still1 KW1.out _ _ _))
                    go_wp2_with fail
                    go_quiet ((go_at_call 78; with_reducible exact still1 KW2.out _ _ _))
                    go_wp2
                    go_ret
                    exact ⟨ret_i64 (by rw [HW.out]; rfl), (by repeat' (first | exact Below.refl _ _ | refine below_drewN ?_ _))⟩
                  · have HF2 := Lib.hid (all_step HF.out (W0.out rfl hle hw1 hw2))
                    have KW2 := hWB
                    rw [hw2] at KW2
                    have KW2 := Lib.hid KW2
                    clear W6a W6b W5 W1 W0 HF hw1 hw2 hWA hWB
                    go_wp2_with fail
                    go_quiet (fail)
                    go_wp2_with fail
                    go_quiet (first | (go_at_call 48; with_reducible exact still1 HALL.out _ _ _) | (go_at_call 78; with_reducible exact still1 KW1.out _ _ _))
                    go_wp2_with fail
                    go_quiet ((go_at_call 78; with_reducible exact still1 KW2.out _ _ _))
                    go_wp2
                    go_roundw
                    case rel => exact ⟨k + 1, by omega, by go_num, HF2.out, _, (by first | rfl | exact World.drewN_drewN _ _ _)⟩
                    case measure => simp [intOf]; omega
        · have : k = n := by omega
          subst this
          go_wp2
          go_ret
          exact ⟨ret_i64 (by rw [HC.out, check0 HP.out H16.out HF.out]; rfl), below_drewN (Below.refl _ _) _⟩
end Go.Proofs.Ytiafegkjamhneaa
