/-
  Which VLAN a frame's bytes are of, by a port's rule: what the program's own Class answers. No statement is proved here.
-/
import Derived.Test.YtiafegkjamhneaaVlanA
import Derived.Test.YtiafegkjamhneaaFrameI
import Derived.Test.YtiafegkjamhneaaPlainOut
namespace Go.Proofs.Ytiafegkjamhneaa
open Go.RowKit

/-- The VLAN and the reason, of what is told. -/
def clsV (dst src v : Nat) (pvid acc : Int) : Int × Nat :=
  if kindN src ≠ 0 then (0, 4) else if kindN dst = 3 then (0, 5) else if (acc = 1 ∧ v = 0) ∨ (acc = 2 ∧ v ≠ 0) then (0, 6) else if v = 4095 then (0, 7) else if v = 0 then (pvid, 0) else ((v : Int), 0)
theorem cls4 {dst src v : Nat} {pvid acc : Int} (h : kindN src ≠ 0) : clsV dst src v pvid acc = (0, 4) := by unfold clsV; rw [if_pos h]
theorem cls5 {dst src v : Nat} {pvid acc : Int} (h : kindN src = 0) (h2 : kindN dst = 3) : clsV dst src v pvid acc = (0, 5) := by unfold clsV; rw [if_neg (by omega), if_pos h2]
theorem cls6 {dst src v : Nat} {pvid acc : Int} (h : kindN src = 0) (h2 : kindN dst ≠ 3) (h3 : (acc = 1 ∧ v = 0) ∨ (acc = 2 ∧ v ≠ 0)) : clsV dst src v pvid acc = (0, 6) := by unfold clsV; rw [if_neg (by omega), if_neg h2, if_pos h3]
theorem cls7 {dst src v : Nat} {pvid acc : Int} (h : kindN src = 0) (h2 : kindN dst ≠ 3) (h3 : ¬ ((acc = 1 ∧ v = 0) ∨ (acc = 2 ∧ v ≠ 0))) (h4 : v = 4095) : clsV dst src v pvid acc = (0, 7) := by unfold clsV; rw [if_neg (by omega), if_neg h2, if_neg h3, if_pos h4]
theorem cls0 {dst src v : Nat} {pvid acc : Int} (h : kindN src = 0) (h2 : kindN dst ≠ 3) (h3 : ¬ ((acc = 1 ∧ v = 0) ∨ (acc = 2 ∧ v ≠ 0))) (h4 : v = 0) : clsV dst src v pvid acc = (pvid, 0) := by unfold clsV; rw [if_neg (by omega), if_neg h2, if_neg h3, if_neg (by omega), if_pos h4]
theorem clsW {dst src v : Nat} {pvid acc : Int} (h : kindN src = 0) (h2 : kindN dst ≠ 3) (h3 : ¬ ((acc = 1 ∧ v = 0) ∨ (acc = 2 ∧ v ≠ 0))) (h4 : v ≠ 0) (h5 : v ≠ 4095) : clsV dst src v pvid acc = ((v : Int), 0) := by unfold clsV; rw [if_neg (by omega), if_neg h2, if_neg h3, if_neg h5, if_neg h4]
def clsN (l : List Nat) (pvid acc : Int) : Int × Nat :=
  if errN l ≠ 0 then (0, errN l - 1) else clsV (parF l).dst (parF l).src ((parF l).tci % 4096) pvid acc
theorem ParsesTo.okF {l : List Nat} (hl : ∀ x ∈ l, x < 256) {w w' : World} {e : Ending} (h : ParsesTo l w e w') (he : errN l = 0) :
    ∃ (d s c y : Nat) (t : Bool) (A : Option Addr) (n p : Nat), e = .returned (.tuple #[.agg #[.int .u64 d, .int .u64 s, .bool t, .int .u16 c, .int .u16 y, .slice A n p], .int .i64 0]) ∧ Below w.heap.size w w' ∧ d = (parF l).dst ∧ s = (parF l).src ∧ c = (parF l).tci ∧ d < 281474976710656 ∧ s < 281474976710656 ∧ c < 65536 := by
  obtain ⟨A, c, h1, _, h3⟩ := ParsesTo.ok h he
  refine ⟨_, _, _, _, _, A, _, c, h1, h3, rfl, rfl, rfl, ofk_small hl (Nat.le_refl _), ofk_small (mem_drop hl 6) (Nat.le_refl _), ?_⟩
  split
  · exact num2_lt hl 14
  · omega
/-- What both answer. -/
def Told2 (x : Int × Nat) (w : World) (e : Ending) (w' : World) : Prop :=
  e = .returned (.tuple #[.int .i64 x.1, .int .i64 (x.2 : Nat)]) ∧ Below w.heap.size w w'

set_option maxHeartbeats 400000 in
theorem frame_Vid (d s c y : Nat) (t : Bool) (lv : Value) (hc : c < 65536) (w : World) :
    Calls Try.prog 24 #[.agg #[.int .u64 (d : Nat), .int .u64 (s : Nat), .bool t, .int .u16 (c : Nat), .int .u16 (y : Nat), lv]] w fun e w' => e = .returned (.int .i64 ((c % 4096 : Nat) : Int)) ∧ Below w.heap.size w w' := by
  have hq : bits .and .u16 (c : Int) 4095 = ((c % 4096 : Nat) : Int) := by
    have := u16_and_nat c 4095 (by omega) (by omega)
    rw [and_vid] at this
    exact this
  obtain ⟨v, hv⟩ : ∃ v, v = c % 4096 := ⟨_, rfl⟩
  have hvl : v < 4096 := by omega
  rw [← hv] at hq ⊢
  clear hv
  go_enter Try.func24, Try.ntmps24
  go_wp2
  go_ret
  exact ⟨rfl, (Below.refl _ _).alloc (Nat.le_refl _) _⟩

set_option maxHeartbeats 400000 in
theorem vlan_unread (E : Nat) (h1 : 2 ≤ E) (h2 : E ≤ 4) (w : World) :
    Calls Try.prog 72 #[.int .i64 (E : Int)] w fun e w' => e = .returned (.int .i64 ((E - 1 : Nat) : Int)) ∧ w = w' := by
  rcases (show E = 2 ∨ E = 3 ∨ E = 4 by omega) with rfl | rfl | rfl
  all_goals go_enter Try.func72, Try.ntmps72
  all_goals go_wp2
  all_goals go_ret
  all_goals exact ⟨rfl, rfl⟩

set_option maxHeartbeats 1600000 in
theorem vlan_Class {l : List Nat} {K : Nat} (hl : ∀ x ∈ l, x < 256) (hK : l.length = K) {v : Value} {w : World} {B : Nat} (hv : Sl w B 1 v K (bv l)) (hB : B ≤ w.heap.size) (pvid acc : Int) :
    Calls Try.prog 32 #[v, .agg #[.int .i64 pvid, .int .i64 acc]] w (Told2 (clsN l pvid acc) w) := by
  have hE : errN l ≤ 4 := by unfold errN; split <;> (try split) <;> (try split) <;> omega
  have hE2 : errN l ≠ 0 → 2 ≤ errN l := by unfold errN; split <;> (try split) <;> (try split) <;> omega
  by_cases he : errN l = 0
  · have hx : clsN l pvid acc = clsV (parF l).dst (parF l).src ((parF l).tci % 4096) pvid acc := by unfold clsN; rw [if_neg (by omega)]
    rw [hx]
    have hP : ∀ W B, Sl W B 1 v K (bv l) → B ≤ W.heap.size → Calls Try.prog 15 #[v] W (ParsesTo l W) := fun W B h1 h2 => frame_Parse hl (by rw [hK]; exact h1) h2
    have HP := Lib.hid hP
    have HV := Lib.hid hv
    have HL := Lib.hid hl
    clear hP hv hx hE hE2 hl hK
    go_enter Try.func32, Try.ntmps32
    go_wp2_with fail
    refine (HP.out _ B (HV.out.alloc hB _) (by go_size)).mono ?_
    intro e w1 hpp
    obtain ⟨d, s, c, y, t, A1, n1, p1, rfl, hb1, hd, hs, hc, hd0, hs0, hc0⟩ := ParsesTo.okF HL.out hpp he
    have hr0 : w1.cell? ⟨w.heap.size, 0, none⟩ = some (.int .i64 pvid) := by
      rw [(bcell hb1).1 w.heap.size 0 (by simp)]
      simp [go_sem]
    have hr1 : w1.cell? ⟨w.heap.size, 1, none⟩ = some (.int .i64 acc) := by
      rw [(bcell hb1).1 w.heap.size 1 (by simp)]
      simp [go_sem]
    have HB1 : Hid (Below w.heap.size w w1) := Below.trans ((Below.refl _ _).alloc (Nat.le_refl _) _) (hb1.mono (by simp))
    have hz1 : w.heap.size + 1 ≤ w1.heap.size := by simpa using hb1.size
    have HXX : Hid (∀ V, V = c % 4096 → clsV (parF l).dst (parF l).src ((parF l).tci % 4096) pvid acc = clsV d s V pvid acc) := fun V h => by rw [h, hd, hs, hc]
    clear hpp hb1 hd hs hc he
    go_wp2_with fail
    refine (frame_Vid d s c y t _ hc0 _).mono ?_
    obtain ⟨V, hV⟩ : ∃ V, V = c % 4096 := ⟨_, rfl⟩
    have hVl : V < 4096 := by omega
    have HX := Lib.hid (HXX.out V hV)
    rw [← hV]
    clear hV HXX
    rintro e w2 ⟨rfl, hb2⟩
    have q0 : w2.cell? ⟨w.heap.size, 0, none⟩ = some (.int .i64 pvid) := by
      rw [(bcell hb2).1 w.heap.size 0 (by simp; omega), World.cell?_alloc_lt _ _ _ (by show w.heap.size < _; omega)]; exact hr0
    have q1 : w2.cell? ⟨w.heap.size, 1, none⟩ = some (.int .i64 acc) := by
      rw [(bcell hb2).1 w.heap.size 1 (by simp; omega), World.cell?_alloc_lt _ _ _ (by show w.heap.size < _; omega)]; exact hr1
    have q2 : w2.cell? ⟨w1.heap.size, 0, none⟩ = some (.int .u64 (d : Nat)) := by
      rw [(bcell hb2).1 w1.heap.size 0 (by simp)]
      simp [go_sem]
    have q3 : w2.cell? ⟨w1.heap.size, 1, none⟩ = some (.int .u64 (s : Nat)) := by
      rw [(bcell hb2).1 w1.heap.size 1 (by simp)]
      simp [go_sem]
    have HB2 : Hid (Below w.heap.size w w2) := Below.trans (HB1.out.alloc (by omega) _) (hb2.mono (by simp; omega))
    clear hb2 hr0 hr1
    have HS := Lib.hid fun W => mac_Kind s (by omega) W
    have HD := Lib.hid fun W => mac_Kind d (by omega) W
    go_wp2_with fail
    refine (HS.out _).mono ?_
    rintro e w3 ⟨rfl, rfl⟩
    obtain ⟨ks, hks⟩ : ∃ ks, ks = kindN s := ⟨_, rfl⟩
    rw [← hks]
    by_cases h4 : ks = 0
    · have HKS : Hid (kindN s = 0) := by rw [← hks]; exact h4
      subst h4
      clear hks
      go_wp2_with fail
      refine (HD.out _).mono ?_
      rintro e w4 ⟨rfl, rfl⟩
      obtain ⟨kd, hkd⟩ : ∃ kd, kd = kindN d := ⟨_, rfl⟩
      rw [← hkd]
      by_cases h5 : kd = 3
      · have HKD : Hid (kindN d = 3) := by rw [← hkd]; exact h5
        subst h5
        clear hkd
        go_wp2
        go_ret2
        exact ⟨by rw [HX.out, cls5 HKS.out HKD.out]; rfl, HB2.out⟩
      · have HKD : Hid (kindN d ≠ 3) := by rw [← hkd]; exact h5
        have h5' : ¬ (kd : Int) = 3 := by omega
        clear hkd h5
        rcases (show acc = 1 ∨ acc = 2 ∨ (¬ acc = 1 ∧ ¬ acc = 2) by omega) with rfl | rfl | ⟨ha1, ha2⟩
        all_goals rcases (show V = 0 ∨ V = 4095 ∨ (¬ (V : Int) = 0 ∧ ¬ (V : Int) = 4095) by omega) with rfl | rfl | ⟨hv1, hv2⟩
        all_goals go_wp2
        all_goals go_ret2
        all_goals first
          | exact ⟨by rw [HX.out, cls6 HKS.out HKD.out (by omega)]; rfl, HB2.out⟩
          | exact ⟨by rw [HX.out, cls7 HKS.out HKD.out (by omega) (by omega)]; rfl, HB2.out⟩
          | exact ⟨by rw [HX.out, cls0 HKS.out HKD.out (by omega) (by omega)]; rfl, HB2.out⟩
          | exact ⟨by rw [HX.out, clsW HKS.out HKD.out (by omega) (by omega) (by omega)]; rfl, HB2.out⟩
    · have HKS : Hid (kindN s ≠ 0) := by rw [← hks]; exact h4
      have h4' : ¬ (ks : Int) = 0 := by omega
      clear hks h4
      go_wp2
      go_ret2
      exact ⟨by rw [HX.out, cls4 HKS.out]; rfl, HB2.out⟩
  · have hx : clsN l pvid acc = (0, errN l - 1) := by unfold clsN; rw [if_pos he]
    rw [hx]
    have hP : ∀ W B, Sl W B 1 v K (bv l) → B ≤ W.heap.size → Calls Try.prog 15 #[v] W (ParsesTo l W) := fun W B h1 h2 => frame_Parse hl (by rw [hK]; exact h1) h2
    have h1 := hE2 he
    have HP := Lib.hid hP
    have HV := Lib.hid hv
    have HE0 := Lib.hid he
    clear hP hv hx hE2
    go_enter Try.func32, Try.ntmps32
    go_wp2_with fail
    refine (HP.out _ B (HV.out.alloc hB _) (by go_size)).mono ?_
    intro e w1 hpp
    obtain ⟨A1, p1, rfl, _, hb1⟩ := ParsesTo.err hpp HE0.out
    obtain ⟨E, hEE⟩ : ∃ E, E = errN l := ⟨_, rfl⟩
    have HEE := Lib.hid hEE
    rw [← hEE] at h1 hE ⊢
    have hE0 : ¬ (E : Int) = 0 := by omega
    have HB1 : Hid (Below w.heap.size w w1) := Below.trans ((Below.refl _ _).alloc (Nat.le_refl _) _) (hb1.mono (by simp))
    have hz1 := HB1.out.size
    clear hpp hb1 hEE
    go_wp2_with fail
    refine (vlan_unread E h1 hE _).mono ?_
    rintro e w2 ⟨rfl, rfl⟩
    go_wp2
    go_ret2
    exact ⟨by rw [HEE.out]; rfl, HB1.out.alloc hz1 _⟩
end Go.Proofs.Ytiafegkjamhneaa
