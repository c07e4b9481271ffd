/-
  A frame's bytes: why a frame can't be written, and the program's own Write. No statement is proved here.
-/
import Derived.Test.YthamjkccljhhcaaFrameF
import Derived.Test.YthamjkccljhhcaaFrameC
import Derived.Test.YthamjkccljhhcaaBase2
namespace Go.Proofs.Ythamjkccljhhcaa
open Go.RowKit

theorem werr_addr {f : Fr} (h : ¬ (f.dst < 281474976710656 ∧ f.src < 281474976710656)) : wErr f = 1 := by unfold wErr; rw [if_pos h]
theorem werr_tag {f : Fr} (h : f.dst < 281474976710656 ∧ f.src < 281474976710656) (h2 : f.tagged = false ∧ (f.tci ≠ 0 ∨ f.typ = 33024)) : wErr f = 1 := by unfold wErr; rw [if_neg (fun g => g h), if_pos h2]
theorem werr_rest {f : Fr} (h : f.dst < 281474976710656 ∧ f.src < 281474976710656) (h2 : ¬ (f.tagged = false ∧ (f.tci ≠ 0 ∨ f.typ = 33024))) : wErr f = if 1500 < f.load.length then 3 else if meetsB f.typ f.load.length then 0 else 4 := by
  unfold wErr; rw [if_neg (fun g => g h), if_neg h2]
theorem ret_code {a b : Nat} (h : a = b) : Ending.returned (.int .i64 (a : Int)) = .returned (.int .i64 (b : Int)) := by rw [h]

set_option maxHeartbeats 1600000 in
theorem frame_fit (f : Fr) (hd : f.dst < 18446744073709551616) (hs : f.src < 18446744073709551616) (A : Option Addr) (k p : Nat) (hk : f.load.length = k) (hk2 : k ≤ 140737488355328) (w : World) :
    Calls Try.prog 55 #[frV f (.slice A k p)] w (Says (.int .i64 (wErr f : Nat)) w) := by
  obtain ⟨E, hE⟩ : ∃ E, E = wErr f := ⟨_, rfl⟩
  rw [← hE]
  have e1 := @werr_addr f
  have e2 := @werr_tag f
  have e3 := @werr_rest f
  rw [hk] at e3
  rw [← hE] at e1 e2 e3
  have hR1 := fun W => mac_Right f.dst hd W
  have hR2 := fun W => mac_Right f.src hs W
  have hM := fun W => frame_meets f.typ (k : Int) (by omega) W
  rw [Int.toNat_natCast] at hM
  obtain ⟨d, s, t, c, y, l⟩ := f
  simp only at *
  generalize meetsB y k = m at *
  unfold frV
  simp only
  clear hk hE
  by_cases h1 : d < 281474976710656
  · rw [decide_eq_true h1] at hR1
    by_cases h2 : s < 281474976710656
    · rw [decide_eq_true h2] at hR2
      have e2 := e2 ⟨h1, h2⟩
      have e3 := e3 ⟨h1, h2⟩
      have R1 := Lib.hid hR1
      have R2 := Lib.hid hR2
      have HM := Lib.hid hM
      clear e1 hR1 hR2 hM h1 h2 hd hs
      cases t
      · by_cases h3 : c = 0
        · subst h3
          by_cases h4 : y = 33024
          · subst h4
            have HE := Lib.hid (e2 ⟨rfl, .inr rfl⟩)
            clear e2 e3
            go_enter Try.func55, Try.ntmps55
            go_wp2_with fail
            refine (R1.out _).mono ?_
            rintro e w1 ⟨rfl, rfl⟩
            go_wp2_with fail
            refine (R2.out _).mono ?_
            rintro e w1 ⟨rfl, rfl⟩
            go_wp2
            go_ret
            exact ⟨ret_code (by rw [HE.out]), (Below.refl _ _).alloc (Nat.le_refl _) _⟩
          · have HE := Lib.hid (e3 (by simp [h4]))
            have h4' : ¬ (y : Int) = 33024 := by omega
            clear e2 e3 h4
            by_cases h5 : 1500 < k
            · have h5' : (1500 : Int) < (k : Int) := by omega
              go_enter Try.func55, Try.ntmps55
              go_wp2_with fail
              refine (R1.out _).mono ?_
              rintro e w1 ⟨rfl, rfl⟩
              go_wp2_with fail
              refine (R2.out _).mono ?_
              rintro e w1 ⟨rfl, rfl⟩
              go_wp2
              go_ret
              exact ⟨ret_code (by rw [HE.out, if_pos h5]), (Below.refl _ _).alloc (Nat.le_refl _) _⟩
            · have h5' : ¬ (1500 : Int) < (k : Int) := by omega
              cases m
              all_goals
                go_enter Try.func55, Try.ntmps55
                go_wp2_with fail
                refine (R1.out _).mono ?_
                rintro e w1 ⟨rfl, rfl⟩
                go_wp2_with fail
                refine (R2.out _).mono ?_
                rintro e w1 ⟨rfl, rfl⟩
                go_wp2_with fail
                refine (HM.out _).mono ?_
                rintro e w1 ⟨rfl, rfl⟩
                go_wp2
                go_ret
                exact ⟨ret_code (by rw [HE.out, if_neg h5]; rfl), (Below.refl _ _).alloc (Nat.le_refl _) _⟩
        · have HE := Lib.hid (e2 ⟨rfl, .inl h3⟩)
          have h3' : ((c : Int) != 0) = true := by simp; omega
          have h3'' : ¬ (c : Int) = 0 := by omega
          clear e2 e3 h3
          go_enter Try.func55, Try.ntmps55
          go_wp2_with fail
          refine (R1.out _).mono ?_
          rintro e w1 ⟨rfl, rfl⟩
          go_wp2_with fail
          refine (R2.out _).mono ?_
          rintro e w1 ⟨rfl, rfl⟩
          go_wp2
          all_goals go_ret
          all_goals exact ⟨ret_code (by rw [HE.out]), (Below.refl _ _).alloc (Nat.le_refl _) _⟩
      · have HE := Lib.hid (e3 (by simp))
        clear e2 e3
        by_cases h5 : 1500 < k
        · have h5' : (1500 : Int) < (k : Int) := by omega
          go_enter Try.func55, Try.ntmps55
          go_wp2_with fail
          refine (R1.out _).mono ?_
          rintro e w1 ⟨rfl, rfl⟩
          go_wp2_with fail
          refine (R2.out _).mono ?_
          rintro e w1 ⟨rfl, rfl⟩
          go_wp2
          go_ret
          exact ⟨ret_code (by rw [HE.out, if_pos h5]), (Below.refl _ _).alloc (Nat.le_refl _) _⟩
        · have h5' : ¬ (1500 : Int) < (k : Int) := by omega
          cases m
          all_goals
            go_enter Try.func55, Try.ntmps55
            go_wp2_with fail
            refine (R1.out _).mono ?_
            rintro e w1 ⟨rfl, rfl⟩
            go_wp2_with fail
            refine (R2.out _).mono ?_
            rintro e w1 ⟨rfl, rfl⟩
            go_wp2_with fail
            refine (HM.out _).mono ?_
            rintro e w1 ⟨rfl, rfl⟩
            go_wp2
            go_ret
            exact ⟨ret_code (by rw [HE.out, if_neg h5]; rfl), (Below.refl _ _).alloc (Nat.le_refl _) _⟩
    · rw [decide_eq_false h2] at hR2
      have HE := Lib.hid (e1 fun g => h2 g.2)
      have R1 := Lib.hid hR1
      have R2 := Lib.hid hR2
      clear e1 e2 e3 hR1 hR2 hM h1 h2 hd hs
      go_enter Try.func55, Try.ntmps55
      go_wp2_with fail
      refine (R1.out _).mono ?_
      rintro e w1 ⟨rfl, rfl⟩
      go_wp2_with fail
      refine (R2.out _).mono ?_
      rintro e w1 ⟨rfl, rfl⟩
      go_wp2
      go_ret
      exact ⟨ret_code (by rw [HE.out]), (Below.refl _ _).alloc (Nat.le_refl _) _⟩
  · rw [decide_eq_false h1] at hR1
    have HE := Lib.hid (e1 fun g => h1 g.1)
    have R1 := Lib.hid hR1
    clear e1 e2 e3 hR1 hR2 hM h1 hd hs
    go_enter Try.func55, Try.ntmps55
    go_wp2_with fail
    refine (R1.out _).mono ?_
    rintro e w1 ⟨rfl, rfl⟩
    go_wp2
    go_ret
    exact ⟨ret_code (by rw [HE.out]), (Below.refl _ _).alloc (Nat.le_refl _) _⟩
end Go.Proofs.Ythamjkccljhhcaa
