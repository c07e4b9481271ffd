/-
  A frame's bytes: the program's own Write. No statement is proved here.
-/
import Derived.Test.YthamjkccljhhcaaFrameX
set_option linter.unusedVariables false
namespace Go.Proofs.Ythamjkccljhhcaa
open Go.RowKit

theorem cell_keep {w w' : World} {B b o : Nat} {v : Value} (h : Below B w w') (hb : b < B) (hc : w.cell? ⟨b, o, none⟩ = some v) : w'.cell? ⟨b, o, none⟩ = some v := (h.cell (p := ⟨b, o, none⟩) hb).trans hc
theorem werr_len {f : Fr} (h : wErr f = 0) : f.load.length ≤ 1500 := by
  unfold wErr at h
  split at h
  · omega
  · split at h
    · omega
    · split at h
      · omega
      · omega
/-- The bytes that Write answers: none, if it can't be written. -/
def wR (f : Fr) : List Nat := if wErr f = 0 then wBytes f else []
def WritesTo (f : Fr) (w : World) (e : Ending) (w' : World) : Prop :=
  ∃ A c, e = .returned (.tuple #[.slice A (wR f).length c, .int .i64 (wErr f : Nat)]) ∧ w'.ownsRow w.heap.size 5 1 (.slice A (wR f).length c) (wR f).length (bv (wR f)) ∧ Below w.heap.size w w'
theorem WritesTo.ok {f : Fr} {l : List Nat} {w w' : World} {A : Option Addr} {n c : Nat} (he : wErr f = 0) (hb : wBytes f = padL l) (ho : w'.ownsRow w.heap.size 5 1 (.slice A n c) n (bv (padL l))) (hbel : Below w.heap.size w w') :
    WritesTo f w (.returned (.tuple #[.slice A n c, .int .i64 0])) w' := by
  have hn : n = (padL l).length := by have := ho.1; simpa [bv_length] using this.symm
  have hr : wR f = padL l := by unfold wR; rw [if_pos he, hb]
  refine ⟨A, c, ?_, ?_, hbel⟩
  · rw [hr, he, hn]; rfl
  · rw [hr, ← hn]; exact ho
theorem WritesTo.err {f : Fr} {w w' : World} {E : Nat} (he : wErr f = E) (h0 : E ≠ 0) (hbel : Below w.heap.size w w') :
    WritesTo f w (.returned (.tuple #[.slice none 0 0, .int .i64 (E : Int)])) w' := by
  have hr : wR f = [] := by unfold wR; rw [if_neg (by rw [he]; exact h0)]
  refine ⟨none, 0, by rw [hr, he]; rfl, ?_, hbel⟩
  rw [hr]
  exact ⟨by simp [bv], .inl ⟨rfl, rfl⟩⟩
set_option maxHeartbeats 400000 in
theorem frame_Write_err (f : Fr) (hd : f.dst < 18446744073709551616) (hs : f.src < 18446744073709551616) (A : Option Addr) (k p : Nat) (hk : f.load.length = k) (hk2 : k ≤ 140737488355328) (w : World) (he : wErr f ≠ 0) :
    Calls Try.prog 21 #[frV f (.slice A k p)] w (WritesTo f w) := by
  have hFit := fun W => frame_fit f hd hs A k p hk hk2 W
  obtain ⟨E, hE⟩ : ∃ E, E = wErr f := ⟨_, rfl⟩
  rw [← hE] at hFit he
  have hne : ((E : Int) != 0) = true := by simp; omega
  have HE := Lib.hid hE
  have H0 := Lib.hid he
  unfold frV at hFit ⊢
  have HFIT := Lib.hid hFit
  clear hFit hE he hd hs hk hk2
  go_enter Try.func21, Try.ntmps21
  go_wp2_with fail
  refine (HFIT.out _).mono ?_
  rintro e w1 ⟨rfl, hb1⟩
  have HB1 : Hid (Below w.heap.size w w1) := Below.trans ((Below.refl _ _).alloc (Nat.le_refl _) _) (hb1.mono (by simp))
  clear hb1
  go_wp2
  go_ret2
  exact WritesTo.err HE.out.symm H0.out HB1.out

set_option maxRecDepth 100000 in
set_option maxHeartbeats 1600000 in
theorem frame_Write_false (d s c y : Nat) (l : List Nat) (hd : d < 18446744073709551616) (hs : s < 18446744073709551616) (hc : c < 65536) (hy : y < 65536) {A0 : Option Addr} {k p0 : Nat} (hk : l.length = k) {w : World} {B : Nat} (hv : Sl w B 1 (.slice A0 k p0) k (bv l)) (hB : B ≤ w.heap.size) (he : wErr ⟨d, s, false, c, y, l⟩ = 0) :
    Calls Try.prog 21 #[frV ⟨d, s, false, c, y, l⟩ (.slice A0 k p0)] w (WritesTo ⟨d, s, false, c, y, l⟩ w) := by
  have hk2 := werr_len he
  simp only at hk2
  rw [hk] at hk2
  have hFit := fun W => frame_fit ⟨d, s, false, c, y, l⟩ hd hs A0 k p0 hk (by omega) W
  rw [he] at hFit
  unfold frV at hFit
  simp only at hFit
  have hbytes : wBytes ⟨d, s, false, c, y, l⟩ = padL (mb d ++ mb s ++ by2 y ++ l) := by unfold wBytes; simp
  obtain ⟨_, _, hvv, hcap, hmx, _⟩ := hv.2
  obtain ⟨X, hX⟩ : ∃ X, X = max k 60 := ⟨_, rfl⟩
  obtain ⟨M, hM⟩ : ∃ M, M = 18 + X := ⟨_, rfl⟩
  have hM1 : M ≤ 10000 := by omega
  have hX1 : X ≤ 9000 := by omega
  have hif : (if ((k : Int)) < 60 then (60 : Int) else (k : Int)) = (X : Int) := by split <;> omega
  have hif2 : (if (60 : Int) < (k : Int) then (k : Int) else (60 : Int)) = (X : Int) := by split <;> omega
  have hmk : ∀ W, (Instr.makeSlice 22 (.int .i64 0) (.int .i64 (18 + (X : Int)))).run Try.prog W = .ok (.slice (some ⟨W.heap.size, 0, none⟩) 0 M) (W.alloc (.cells (mkC (.int .u8 0) 1 M) 5)) := fun W => by
    have := run_mk (P := Try.prog) W stBytes M (by omega)
    rw [hM] at this ⊢
    exact this
  have HFIT := Lib.hid hFit
  have HE := Lib.hid he
  have HBY := Lib.hid hbytes
  have HV := Lib.hid hv
  clear hFit he hbytes hv hX hM hvv hcap hmx hd hs
  unfold frV
  simp only
  go_enter Try.func21, Try.ntmps21
  go_wp2_with fail
  refine (HFIT.out _).mono ?_
  rintro e w1 ⟨rfl, hb1⟩
  have q1_0 : w1.cell? ⟨w.heap.size, 0, none⟩ = some (.int .u64 (d : Nat)) := by rw [(bcell hb1).1 _ 0 (by simp)]; simp [go_sem]
  have q1_1 : w1.cell? ⟨w.heap.size, 1, none⟩ = some (.int .u64 (s : Nat)) := by rw [(bcell hb1).1 _ 1 (by simp)]; simp [go_sem]
  have q1_2 : w1.cell? ⟨w.heap.size, 2, none⟩ = some (.bool false) := by rw [(bcell hb1).1 _ 2 (by simp)]; simp [go_sem]
  have q1_3 : w1.cell? ⟨w.heap.size, 3, none⟩ = some (.int .u16 (c : Nat)) := by rw [(bcell hb1).1 _ 3 (by simp)]; simp [go_sem]
  have q1_4 : w1.cell? ⟨w.heap.size, 4, none⟩ = some (.int .u16 (y : Nat)) := by rw [(bcell hb1).1 _ 4 (by simp)]; simp [go_sem]
  have q1_5 : w1.cell? ⟨w.heap.size, 5, none⟩ = some (.slice A0 k p0) := by rw [(bcell hb1).1 _ 5 (by simp)]; simp [go_sem]
  have HB1 : Hid (Below w.heap.size w w1) := Below.trans ((Below.refl _ _).alloc (Nat.le_refl _) _) (hb1.mono (by simp))
  have hz1 : w.heap.size + 1 ≤ w1.heap.size := by simpa using hb1.size
  clear hb1
  have qa : ∀ o, (w1.alloc o).cell? ⟨w.heap.size, 0, none⟩ = some (.int .u64 (d : Nat)) := fun o => (World.cell?_alloc_lt w1 _ _ (by show w.heap.size < _; omega)).trans q1_0
  go_wp2_with fail
  refine (mac_Bytes d _).mono ?_
  rintro e w2 ⟨v2, rfl, hm2, hb2⟩
  have HM2 := Lib.hid (Sl.of_own hm2)
  have HO2 : Hid (w2.ownsRow (w.heap.size + 1) 5 1 (.slice (some ⟨w1.heap.size, 0, none⟩) 0 M) 0 []) := own_below (own_made_at rfl hz1 (by simp [maxLen]; omega)) hb2
  have B2 : Below (w.heap.size + 1) w1 w2 := Below.trans ((Below.refl _ _).alloc hz1 _) (hb2.mono (by simp; omega))
  have hz2 : w.heap.size + 1 ≤ w2.heap.size := Nat.le_trans hz1 B2.size
  have q2_1 := cell_keep B2 (by omega) q1_1
  have q2_2 := cell_keep B2 (by omega) q1_2
  have q2_3 := cell_keep B2 (by omega) q1_3
  have q2_4 := cell_keep B2 (by omega) q1_4
  have q2_5 := cell_keep B2 (by omega) q1_5
  have HB2 := Lib.hid (HB1.out.trans (B2.mono (by omega)))
  clear hm2 hb2 B2 q1_0 q1_1 q1_2 q1_3 q1_4 q1_5 qa hmk hif hif2
  go_wp2_with (first
    | (at_builtin; refine wpList_apv _ rfl stBytes (.tmp 17) (.tmp 20) rfl (w.heap.size + 1) _ 0 _ rfl HO2.out w2.heap.size _ 6 (bv (mb d)) rfl HM2.out (bv_one _) (by omega) hz2 ?_; intro A3 p3 w3 ho3 hg3 hat3 hb3; clear hg3 hat3; have q3_1 := cell_keep hb3 (by omega) q2_1; have q3_2 := cell_keep hb3 (by omega) q2_2; have q3_3 := cell_keep hb3 (by omega) q2_3; have q3_4 := cell_keep hb3 (by omega) q2_4; have q3_5 := cell_keep hb3 (by omega) q2_5)
    | fail)
  rw [List.nil_append] at ho3
  have HO3 := Lib.hid ho3
  have HB3 := Lib.hid (HB2.out.trans (hb3.mono (by omega)))
  have hz3 : w.heap.size + 1 ≤ w3.heap.size := Nat.le_trans hz2 hb3.size
  clear ho3 hb3 q2_1 q2_2 q2_3 q2_4 q2_5
  refine (mac_Bytes s _).mono ?_
  rintro e w4 ⟨v4, rfl, hm4, hb4⟩
  have HM4 := Lib.hid (Sl.of_own hm4)
  have HO4 := Lib.hid (own_below HO3.out hb4)
  have B4 : Below (w.heap.size + 1) w3 w4 := hb4.mono hz3
  have hz4 : w.heap.size + 1 ≤ w4.heap.size := Nat.le_trans hz3 hb4.size
  have q4_2 := cell_keep B4 (by omega) q3_2
  have q4_3 := cell_keep B4 (by omega) q3_3
  have q4_4 := cell_keep B4 (by omega) q3_4
  have q4_5 := cell_keep B4 (by omega) q3_5
  have HB4 := Lib.hid (HB3.out.trans (B4.mono (by omega)))
  clear hm4 hb4 B4 q3_1 q3_2 q3_3 q3_4 q3_5
  go_wp2_with (first
    | (at_builtin; refine wpList_apv _ rfl stBytes (.tmp 22) (.tmp 25) rfl (w.heap.size + 1) _ (0 + 6) _ rfl HO4.out w4.heap.size _ 6 (bv (mb s)) rfl HM4.out (bv_one _) (by omega) hz4 ?_; intro A5 p5 w5 ho5 hg5 hat5 hb5; clear hg5 hat5; have q5_2 := cell_keep hb5 (by omega) q4_2; have q5_3 := cell_keep hb5 (by omega) q4_3; have q5_4 := cell_keep hb5 (by omega) q4_4; have q5_5 := cell_keep hb5 (by omega) q4_5)
    | fail)
  rw [← bv_append] at ho5
  have HO5 := Lib.hid ho5
  have HB5 := Lib.hid (HB4.out.trans (hb5.mono (by omega)))
  have hz5 : w.heap.size + 1 ≤ w5.heap.size := Nat.le_trans hz4 hb5.size
  clear ho5 hb5 q4_2 q4_3 q4_4 q4_5
  refine (frame_appendNumber (k := y) hy HO5.out hz5 (by omega)).mono ?_
  rintro e w7 ⟨A7, p7, rfl, ho7, hb7⟩
  have HO7 := Lib.hid ho7
  have q7_5 := cell_keep hb7 (by omega) q5_5
  have HB7 := Lib.hid (HB5.out.trans (hb7.mono (by omega)))
  have hz7 : w.heap.size + 1 ≤ w7.heap.size := Nat.le_trans hz5 hb7.size
  clear ho7 hb7 q5_5
  go_wp2_with (first
    | (at_builtin; refine wpList_apv _ rfl stBytes (.tmp 37) (.tmp 39) rfl (w.heap.size + 1) _ ((0 + 6 + 6) + 2) _ rfl HO7.out B _ k (bv l) rfl (HV.out.below (HB7.out.mono hB)) (bv_one _) (by omega) hz7 ?_; intro A8 p8 w8 ho8 hg8 hat8 hb8; clear hg8 hat8)
    | fail)
  rw [← bv_append] at ho8
  have HO8 := Lib.hid ho8
  have HB8 := Lib.hid (HB7.out.trans (hb8.mono (by omega)))
  have hz8 : w.heap.size + 1 ≤ w8.heap.size := Nat.le_trans hz7 hb8.size
  clear ho8 hb8
  refine (frame_pad HO8.out hz8 (by omega)).mono ?_
  rintro e w9 ⟨A9, p9, rfl, ho9, hb9⟩
  have HO9 := Lib.hid (own_base ho9 (show w.heap.size ≤ w.heap.size + 1 by omega))
  have HB9 := Lib.hid (HB8.out.trans (hb9.mono (by omega)))
  clear ho9 hb9
  go_wp2
  go_ret2
  exact WritesTo.ok HE.out HBY.out HO9.out HB9.out

set_option maxRecDepth 100000 in
set_option maxHeartbeats 1600000 in
theorem frame_Write_true (d s c y : Nat) (l : List Nat) (hd : d < 18446744073709551616) (hs : s < 18446744073709551616) (hc : c < 65536) (hy : y < 65536) {A0 : Option Addr} {k p0 : Nat} (hk : l.length = k) {w : World} {B : Nat} (hv : Sl w B 1 (.slice A0 k p0) k (bv l)) (hB : B ≤ w.heap.size) (he : wErr ⟨d, s, true, c, y, l⟩ = 0) :
    Calls Try.prog 21 #[frV ⟨d, s, true, c, y, l⟩ (.slice A0 k p0)] w (WritesTo ⟨d, s, true, c, y, l⟩ w) := by
  have hk2 := werr_len he
  simp only at hk2
  rw [hk] at hk2
  have hFit := fun W => frame_fit ⟨d, s, true, c, y, l⟩ hd hs A0 k p0 hk (by omega) W
  rw [he] at hFit
  unfold frV at hFit
  simp only at hFit
  have hbytes : wBytes ⟨d, s, true, c, y, l⟩ = padL (mb d ++ mb s ++ ([129, 0] ++ by2 c) ++ by2 y ++ l) := by unfold wBytes; simp
  obtain ⟨_, _, hvv, hcap, hmx, _⟩ := hv.2
  obtain ⟨X, hX⟩ : ∃ X, X = max k 60 := ⟨_, rfl⟩
  obtain ⟨M, hM⟩ : ∃ M, M = 18 + X := ⟨_, rfl⟩
  have hM1 : M ≤ 10000 := by omega
  have hX1 : X ≤ 9000 := by omega
  have hif : (if ((k : Int)) < 60 then (60 : Int) else (k : Int)) = (X : Int) := by split <;> omega
  have hif2 : (if (60 : Int) < (k : Int) then (k : Int) else (60 : Int)) = (X : Int) := by split <;> omega
  have hmk : ∀ W, (Instr.makeSlice 22 (.int .i64 0) (.int .i64 (18 + (X : Int)))).run Try.prog W = .ok (.slice (some ⟨W.heap.size, 0, none⟩) 0 M) (W.alloc (.cells (mkC (.int .u8 0) 1 M) 5)) := fun W => by
    have := run_mk (P := Try.prog) W stBytes M (by omega)
    rw [hM] at this ⊢
    exact this
  have HFIT := Lib.hid hFit
  have HE := Lib.hid he
  have HBY := Lib.hid hbytes
  have HV := Lib.hid hv
  clear hFit he hbytes hv hX hM hvv hcap hmx hd hs
  unfold frV
  simp only
  go_enter Try.func21, Try.ntmps21
  go_wp2_with fail
  refine (HFIT.out _).mono ?_
  rintro e w1 ⟨rfl, hb1⟩
  have q1_0 : w1.cell? ⟨w.heap.size, 0, none⟩ = some (.int .u64 (d : Nat)) := by rw [(bcell hb1).1 _ 0 (by simp)]; simp [go_sem]
  have q1_1 : w1.cell? ⟨w.heap.size, 1, none⟩ = some (.int .u64 (s : Nat)) := by rw [(bcell hb1).1 _ 1 (by simp)]; simp [go_sem]
  have q1_2 : w1.cell? ⟨w.heap.size, 2, none⟩ = some (.bool true) := by rw [(bcell hb1).1 _ 2 (by simp)]; simp [go_sem]
  have q1_3 : w1.cell? ⟨w.heap.size, 3, none⟩ = some (.int .u16 (c : Nat)) := by rw [(bcell hb1).1 _ 3 (by simp)]; simp [go_sem]
  have q1_4 : w1.cell? ⟨w.heap.size, 4, none⟩ = some (.int .u16 (y : Nat)) := by rw [(bcell hb1).1 _ 4 (by simp)]; simp [go_sem]
  have q1_5 : w1.cell? ⟨w.heap.size, 5, none⟩ = some (.slice A0 k p0) := by rw [(bcell hb1).1 _ 5 (by simp)]; simp [go_sem]
  have HB1 : Hid (Below w.heap.size w w1) := Below.trans ((Below.refl _ _).alloc (Nat.le_refl _) _) (hb1.mono (by simp))
  have hz1 : w.heap.size + 1 ≤ w1.heap.size := by simpa using hb1.size
  clear hb1
  have qa : ∀ o, (w1.alloc o).cell? ⟨w.heap.size, 0, none⟩ = some (.int .u64 (d : Nat)) := fun o => (World.cell?_alloc_lt w1 _ _ (by show w.heap.size < _; omega)).trans q1_0
  go_wp2_with fail
  refine (mac_Bytes d _).mono ?_
  rintro e w2 ⟨v2, rfl, hm2, hb2⟩
  have HM2 := Lib.hid (Sl.of_own hm2)
  have HO2 : Hid (w2.ownsRow (w.heap.size + 1) 5 1 (.slice (some ⟨w1.heap.size, 0, none⟩) 0 M) 0 []) := own_below (own_made_at rfl hz1 (by simp [maxLen]; omega)) hb2
  have B2 : Below (w.heap.size + 1) w1 w2 := Below.trans ((Below.refl _ _).alloc hz1 _) (hb2.mono (by simp; omega))
  have hz2 : w.heap.size + 1 ≤ w2.heap.size := Nat.le_trans hz1 B2.size
  have q2_1 := cell_keep B2 (by omega) q1_1
  have q2_2 := cell_keep B2 (by omega) q1_2
  have q2_3 := cell_keep B2 (by omega) q1_3
  have q2_4 := cell_keep B2 (by omega) q1_4
  have q2_5 := cell_keep B2 (by omega) q1_5
  have HB2 := Lib.hid (HB1.out.trans (B2.mono (by omega)))
  clear hm2 hb2 B2 q1_0 q1_1 q1_2 q1_3 q1_4 q1_5 qa hmk hif hif2
  go_wp2_with (first
    | (at_builtin; refine wpList_apv _ rfl stBytes (.tmp 17) (.tmp 20) rfl (w.heap.size + 1) _ 0 _ rfl HO2.out w2.heap.size _ 6 (bv (mb d)) rfl HM2.out (bv_one _) (by omega) hz2 ?_; intro A3 p3 w3 ho3 hg3 hat3 hb3; clear hg3 hat3; have q3_1 := cell_keep hb3 (by omega) q2_1; have q3_2 := cell_keep hb3 (by omega) q2_2; have q3_3 := cell_keep hb3 (by omega) q2_3; have q3_4 := cell_keep hb3 (by omega) q2_4; have q3_5 := cell_keep hb3 (by omega) q2_5)
    | fail)
  rw [List.nil_append] at ho3
  have HO3 := Lib.hid ho3
  have HB3 := Lib.hid (HB2.out.trans (hb3.mono (by omega)))
  have hz3 : w.heap.size + 1 ≤ w3.heap.size := Nat.le_trans hz2 hb3.size
  clear ho3 hb3 q2_1 q2_2 q2_3 q2_4 q2_5
  refine (mac_Bytes s _).mono ?_
  rintro e w4 ⟨v4, rfl, hm4, hb4⟩
  have HM4 := Lib.hid (Sl.of_own hm4)
  have HO4 := Lib.hid (own_below HO3.out hb4)
  have B4 : Below (w.heap.size + 1) w3 w4 := hb4.mono hz3
  have hz4 : w.heap.size + 1 ≤ w4.heap.size := Nat.le_trans hz3 hb4.size
  have q4_2 := cell_keep B4 (by omega) q3_2
  have q4_3 := cell_keep B4 (by omega) q3_3
  have q4_4 := cell_keep B4 (by omega) q3_4
  have q4_5 := cell_keep B4 (by omega) q3_5
  have HB4 := Lib.hid (HB3.out.trans (B4.mono (by omega)))
  clear hm4 hb4 B4 q3_1 q3_2 q3_3 q3_4 q3_5
  go_wp2_with (first
    | (at_builtin; refine wpList_apv _ rfl stBytes (.tmp 22) (.tmp 25) rfl (w.heap.size + 1) _ (0 + 6) _ rfl HO4.out w4.heap.size _ 6 (bv (mb s)) rfl HM4.out (bv_one _) (by omega) hz4 ?_; intro A5 p5 w5 ho5 hg5 hat5 hb5; clear hg5 hat5; have q5_2 := cell_keep hb5 (by omega) q4_2; have q5_3 := cell_keep hb5 (by omega) q4_3; have q5_4 := cell_keep hb5 (by omega) q4_4; have q5_5 := cell_keep hb5 (by omega) q4_5)
    | fail)
  rw [← bv_append] at ho5
  have HO5 := Lib.hid ho5
  have HB5 := Lib.hid (HB4.out.trans (hb5.mono (by omega)))
  have hz5 : w.heap.size + 1 ≤ w5.heap.size := Nat.le_trans hz4 hb5.size
  clear ho5 hb5 q4_2 q4_3 q4_4 q4_5
  refine (frame_appendTag (k := c) hc HO5.out hz5 (by omega)).mono ?_
  rintro e w6 ⟨A6, p6, rfl, ho6, hb6⟩
  have HO6 := Lib.hid ho6
  have q6_4 := cell_keep hb6 (by omega) q5_4
  have q6_5 := cell_keep hb6 (by omega) q5_5
  have HB6 := Lib.hid (HB5.out.trans (hb6.mono (by omega)))
  have hz6 : w.heap.size + 1 ≤ w6.heap.size := Nat.le_trans hz5 hb6.size
  clear ho6 hb6 q5_2 q5_3 q5_4 q5_5
  go_wp2_with fail
  refine (frame_appendNumber (k := y) hy HO6.out hz6 (by omega)).mono ?_
  rintro e w7 ⟨A7, p7, rfl, ho7, hb7⟩
  have HO7 := Lib.hid ho7
  have q7_5 := cell_keep hb7 (by omega) q6_5
  have HB7 := Lib.hid (HB6.out.trans (hb7.mono (by omega)))
  have hz7 : w.heap.size + 1 ≤ w7.heap.size := Nat.le_trans hz6 hb7.size
  clear ho7 hb7 q6_5
  go_wp2_with (first
    | (at_builtin; refine wpList_apv _ rfl stBytes (.tmp 37) (.tmp 39) rfl (w.heap.size + 1) _ ((0 + 6 + 6 + 4) + 2) _ rfl HO7.out B _ k (bv l) rfl (HV.out.below (HB7.out.mono hB)) (bv_one _) (by omega) hz7 ?_; intro A8 p8 w8 ho8 hg8 hat8 hb8; clear hg8 hat8)
    | fail)
  rw [← bv_append] at ho8
  have HO8 := Lib.hid ho8
  have HB8 := Lib.hid (HB7.out.trans (hb8.mono (by omega)))
  have hz8 : w.heap.size + 1 ≤ w8.heap.size := Nat.le_trans hz7 hb8.size
  clear ho8 hb8
  refine (frame_pad HO8.out hz8 (by omega)).mono ?_
  rintro e w9 ⟨A9, p9, rfl, ho9, hb9⟩
  have HO9 := Lib.hid (own_base ho9 (show w.heap.size ≤ w.heap.size + 1 by omega))
  have HB9 := Lib.hid (HB8.out.trans (hb9.mono (by omega)))
  clear ho9 hb9
  go_wp2
  go_ret2
  exact WritesTo.ok HE.out HBY.out HO9.out HB9.out

theorem frame_Write {f : Fr} (hd : f.dst < 18446744073709551616) (hs : f.src < 18446744073709551616) (hc : f.tci < 65536) (hy : f.typ < 65536) {A0 : Option Addr} {k p0 : Nat} (hk : f.load.length = k) (hk2 : k ≤ 140737488355328) {w : World} {B : Nat} (hv : Sl w B 1 (.slice A0 k p0) k (bv f.load)) (hB : B ≤ w.heap.size) :
    Calls Try.prog 21 #[frV f (.slice A0 k p0)] w (WritesTo f w) := by
  by_cases he : wErr f = 0
  · obtain ⟨d, s, t, c, y, l⟩ := f
    cases t
    · exact frame_Write_false d s c y l hd hs hc hy hk hv hB he
    · exact frame_Write_true d s c y l hd hs hc hy hk hv hB he
  · exact frame_Write_err f hd hs A0 k p0 hk hk2 w he
end Go.Proofs.Ythamjkccljhhcaa
