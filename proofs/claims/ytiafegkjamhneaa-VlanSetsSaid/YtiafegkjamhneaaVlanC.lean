/-
  Which VLAN a frame's bytes are of: what the document's Class answers. No statement is proved here.
-/
import Derived.Test.YtiafegkjamhneaaVlanB
import Derived.Test.YtiafegkjamhneaaFrameE
namespace Go.Proofs.Ytiafegkjamhneaa
open Go.RowKit

set_option maxHeartbeats 1600000 in
theorem ref3_Class {l : List Nat} {K : Nat} (hl : ∀ x ∈ l, x < 256) (hK : l.length = K) {v : Value} {w : World} {B : Nat} (hv : Sl w B 1 v K (bv l)) (hB : B ≤ w.heap.size) (pvid acc : Int) :
    Calls Try.prog 33 #[v, .agg #[.int .i64 pvid, .int .i64 acc]] w (Told2 (clsN l pvid acc) w) := by
  have hE : errN l ≤ 4 := by unfold errN; split <;> (try split) <;> (try split) <;> omega
  have hE2 : errN l ≠ 0 → 2 ≤ errN l := by unfold errN; split <;> (try split) <;> (try split) <;> omega
  by_cases he : errN l = 0
  · have hx : clsN l pvid acc = clsV (parF l).dst (parF l).src ((parF l).tci % 4096) pvid acc := by unfold clsN; rw [if_neg (by omega)]
    rw [hx]
    have hP : ∀ W B, Sl W B 1 v K (bv l) → B ≤ W.heap.size → Calls Try.prog 16 #[v] W (ParsesTo l W) := fun W B h1 h2 => ref_Parse hl (by rw [hK]; exact h1) h2
    have HP := Lib.hid hP
    have HV := Lib.hid hv
    have HL := Lib.hid hl
    clear hP hv hx hE hE2 hl hK
    go_enter Try.func33, Try.ntmps33
    go_wp2_with fail
    refine (HP.out _ B (HV.out.alloc hB _) (by go_size)).mono ?_
    intro e w1 hpp
    obtain ⟨d, s, c, y, t, A1, n1, p1, rfl, hb1, hd, hs, hc, hd0, hs0, hc0⟩ := ParsesTo.okF HL.out hpp he
    have hr0 : w1.cell? ⟨w.heap.size, 0, none⟩ = some (.int .i64 pvid) := by
      rw [(bcell hb1).1 w.heap.size 0 (by simp)]
      simp [go_sem]
    have hr1 : w1.cell? ⟨w.heap.size, 1, none⟩ = some (.int .i64 acc) := by
      rw [(bcell hb1).1 w.heap.size 1 (by simp)]
      simp [go_sem]
    have HB1 : Hid (Below w.heap.size w w1) := Below.trans ((Below.refl _ _).alloc (Nat.le_refl _) _) (hb1.mono (by simp))
    have hz1 : w.heap.size + 1 ≤ w1.heap.size := by simpa using hb1.size
    have HXX : Hid (∀ V, V = c % 4096 → clsV (parF l).dst (parF l).src ((parF l).tci % 4096) pvid acc = clsV d s V pvid acc) := fun V h => by rw [h, hd, hs, hc]
    clear hpp hb1 hd hs hc he
    obtain ⟨V, hV⟩ : ∃ V, V = c % 4096 := ⟨_, rfl⟩
    have hVl : V < 4096 := by omega
    have hVi : (c : Int) % 4096 = (V : Int) := by omega
    have HX := Lib.hid (HXX.out V hV)
    clear hV HXX
    have HS := Lib.hid fun W => ref_Kind s (by omega) W
    have HD := Lib.hid fun W => ref_Kind d (by omega) W
    go_wp2_with fail
    refine (HS.out _).mono ?_
    rintro e w2 ⟨rfl, hb2⟩
    have q1 : w2.cell? ⟨w.heap.size, 1, none⟩ = some (.int .i64 acc) := by
      rw [(bcell hb2).1 w.heap.size 1 (by simp; omega), World.cell?_alloc_lt _ _ _ (by show w.heap.size < _; omega)]; exact hr1
    have q0 : w2.cell? ⟨w.heap.size, 0, none⟩ = some (.int .i64 pvid) := by
      rw [(bcell hb2).1 w.heap.size 0 (by simp; omega), World.cell?_alloc_lt _ _ _ (by show w.heap.size < _; omega)]; exact hr0
    have q2 : w2.cell? ⟨w1.heap.size, 0, none⟩ = some (.int .u64 (d : Nat)) := by
      rw [(bcell hb2).1 w1.heap.size 0 (by simp)]
      simp [go_sem]
    have q3 : w2.cell? ⟨w1.heap.size, 3, none⟩ = some (.int .u16 (c : Nat)) := by
      rw [(bcell hb2).1 w1.heap.size 3 (by simp)]
      simp [go_sem]
    have HB2 : Hid (Below w.heap.size w w2) := Below.trans (HB1.out.alloc (by omega) _) (hb2.mono (by simp; omega))
    have hz2 : w1.heap.size + 1 ≤ w2.heap.size := by simpa using hb2.size
    clear hb2 hr0 hr1
    obtain ⟨ks, hks⟩ : ∃ ks, ks = kindN s := ⟨_, rfl⟩
    rw [← hks]
    by_cases h4 : ks = 0
    · have HKS : Hid (kindN s = 0) := by rw [← hks]; exact h4
      subst h4
      clear hks
      go_wp2_with fail
      refine (HD.out _).mono ?_
      rintro e w4 ⟨rfl, hb4⟩
      have p0 := ((bcell hb4).1 w.heap.size 0 (by omega)).trans q0
      have p1 := ((bcell hb4).1 w.heap.size 1 (by omega)).trans q1
      have p3 := ((bcell hb4).1 w1.heap.size 3 (by omega)).trans q3
      have HB4 : Hid (Below w.heap.size w w4) := Below.trans HB2.out (hb4.mono HB2.out.size)
      clear hb4 q0 q1 q2 q3
      obtain ⟨kd, hkd⟩ : ∃ kd, kd = kindN d := ⟨_, rfl⟩
      rw [← hkd]
      by_cases h5 : kd = 3
      · have HKD : Hid (kindN d = 3) := by rw [← hkd]; exact h5
        subst h5
        clear hkd
        go_wp2
        go_ret2
        exact ⟨by rw [HX.out, cls5 HKS.out HKD.out]; rfl, HB4.out⟩
      · have HKD : Hid (kindN d ≠ 3) := by rw [← hkd]; exact h5
        have h5' : ¬ (kd : Int) = 3 := by omega
        clear hkd h5
        rcases (show acc = 1 ∨ acc = 2 ∨ (¬ acc = 1 ∧ ¬ acc = 2) by omega) with rfl | rfl | ⟨ha1, ha2⟩
        all_goals rcases (show V = 0 ∨ V = 4095 ∨ (¬ (V : Int) = 0 ∧ ¬ (V : Int) = 4095) by omega) with rfl | rfl | ⟨hv1, hv2⟩
        all_goals go_wp2
        all_goals go_ret2
        all_goals first
          | exact ⟨by rw [HX.out, cls6 HKS.out HKD.out (by omega)]; rfl, HB4.out⟩
          | exact ⟨by rw [HX.out, cls7 HKS.out HKD.out (by omega) (by omega)]; rfl, HB4.out⟩
          | exact ⟨by rw [HX.out, cls0 HKS.out HKD.out (by omega) (by omega)]; rfl, HB4.out⟩
          | exact ⟨by rw [HX.out, clsW HKS.out HKD.out (by omega) (by omega) (by omega)]; rfl, HB4.out⟩
    · have HKS : Hid (kindN s ≠ 0) := by rw [← hks]; exact h4
      have h4' : ¬ (ks : Int) = 0 := by omega
      clear hks h4
      go_wp2
      go_ret2
      exact ⟨by rw [HX.out, cls4 HKS.out]; rfl, HB2.out⟩
  · have hx : clsN l pvid acc = (0, errN l - 1) := by unfold clsN; rw [if_pos he]
    rw [hx]
    have hP : ∀ W B, Sl W B 1 v K (bv l) → B ≤ W.heap.size → Calls Try.prog 16 #[v] W (ParsesTo l W) := fun W B h1 h2 => ref_Parse hl (by rw [hK]; exact h1) h2
    have h1 := hE2 he
    have HP := Lib.hid hP
    have HV := Lib.hid hv
    have HE0 := Lib.hid he
    clear hP hv hx hE2
    go_enter Try.func33, Try.ntmps33
    go_wp2_with fail
    refine (HP.out _ B (HV.out.alloc hB _) (by go_size)).mono ?_
    intro e w1 hpp
    obtain ⟨A1, p1, rfl, _, hb1⟩ := ParsesTo.err hpp HE0.out
    obtain ⟨E, hEE⟩ : ∃ E, E = errN l := ⟨_, rfl⟩
    have HEE := Lib.hid hEE
    rw [← hEE] at h1 hE ⊢
    have hE0 : ¬ (E : Int) = 0 := by omega
    have HB1 : Hid (Below w.heap.size w w1) := Below.trans ((Below.refl _ _).alloc (Nat.le_refl _) _) (hb1.mono (by simp))
    have hz1 := HB1.out.size
    clear hpp hb1 hEE
    have hs1 : (E : Int) - 1 = ((E - 1 : Nat) : Int) := by omega
    obtain ⟨D, hD⟩ : ∃ D, D = E - 1 := ⟨_, rfl⟩
    rw [← hD] at hs1
    have HDD := Lib.hid hD
    clear hD
    go_wp2
    go_ret2
    exact ⟨by rw [← HEE.out, ← HDD.out]; rfl, HB1.out.alloc hz1 _⟩
end Go.Proofs.Ytiafegkjamhneaa
