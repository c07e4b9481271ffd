/-
  A frame that gets a tag, and loses it again, has its addresses, its type and its load, but for noughts behind, and one that gets two tags has the last one, and the first one's priority. No condition.
-/
import Derived.Test.YthamjkccljhhcaaRows
import Derived.Test.YthamjkccljhhcaaFrameT
import Derived.Test.YthamjkccljhhcaaFrameK
import Derived.Deep.RegionHeld3
import Derived.Test.YthamjkccljhhcaaFrameBk
import Derived.IntWalk
import Derived.WalkKit
import Derived.ProofKit
import Derived.OpenShut
namespace Go.Proofs.Ythamjkccljhhcaa.frameBack
open Go.ChangeShapes Go.WideShapes Go.ChangeAt Go.RowKit
open Go.ChangeMaps (open_string)
set_option linter.unusedVariables false

theorem own : ownKnob Try.prog.godebug = none := by kernel_rfl
theorem one_wrap (n : Nat) (h : n < 4094) : wrap64 (1 + (n : Int)) = ((1 + n : Nat) : Int) := by
  rw [IntWalk.wrap64_in _ (by omega)]
  omega
theorem out_ok {l : List Nat} {t : Bool} {vid : Int} {R : List Nat} {n : Nat} (hl : ∀ x ∈ l, x < 256) {s : Value} {w : World} {B K : Nat} (hK : l.length = K) (hv : Sl w B 1 s K (bv l)) (hB : B ≤ w.heap.size) (he : oErr l t vid = 0) (hR : outR l t vid = R) (hn : R.length = n) :
    Calls Try.prog 26 #[s, .bool t, .int .i64 vid] w fun e w' => ∃ A c, e = .returned (.tuple #[.slice A n c, .int .i64 0]) ∧ Sl w' w'.heap.size 1 (.slice A n c) n (bv R) ∧ Below w.heap.size w w' := by
  subst hK
  refine (frame_Out hl hv hB t vid).mono ?_
  intro e w' h
  unfold OutsTo at h
  rw [he, hR, hn] at h
  obtain ⟨A, c, h1, h2, h3⟩ := h
  exact ⟨A, c, h1, Sl.of_own h2, h3⟩
theorem parse_ok {l : List Nat} {k n : Nat} (hl : ∀ x ∈ l, x < 256) {s : Value} {w : World} {B : Nat} (hn : l.length = n) (hv : Sl w B 1 s n (bv l)) (hB : B ≤ w.heap.size) (he : errN l = 0) (ht : tagB l = true) (hk : num2 l 14 = k) :
    Calls Try.prog 15 #[s] w fun e w' => ∃ (d s y : Nat) (A : Option Addr) (n p : Nat), e = .returned (.tuple #[.agg #[.int .u64 d, .int .u64 s, .bool true, .int .u16 (k : Int), .int .u16 y, .slice A n p], .int .i64 0]) ∧ Below w.heap.size w w' := by
  subst hn
  refine (frame_Parse hl hv hB).mono ?_
  intro e w' h
  obtain ⟨A, c, h1, _, h3⟩ := ParsesTo.ok h he
  rw [ht, if_pos rfl, hk] at h1
  exact ⟨_, _, _, A, _, c, h1, h3⟩
theorem rparse_ok {l : List Nat} {t n : Nat} {T : Bool} (hl : ∀ x ∈ l, x < 256) {s : Value} {w : World} {B : Nat} (hn : l.length = n) (hv : Sl w B 1 s n (bv l)) (hB : B ≤ w.heap.size) (he : errN l = 0) (ht : tagB l = T) (hk : tciN l = t) :
    Calls Try.prog 16 #[s] w fun e w' => ∃ (d s y : Nat) (A : Option Addr) (n p : Nat), e = .returned (.tuple #[.agg #[.int .u64 d, .int .u64 s, .bool T, .int .u16 (t : Int), .int .u16 y, .slice A n p], .int .i64 0]) ∧ Below w.heap.size w w' := by
  subst hn
  refine (ref_Parse hl hv hB).mono ?_
  intro e w' h
  obtain ⟨A, c, h1, _, h3⟩ := ParsesTo.ok h he
  unfold tciN at hk
  rw [hk, ht] at h1
  exact ⟨_, _, _, A, _, c, h1, h3⟩
theorem padL_60 (l : List Nat) : 60 ≤ (padL l).length := by rw [padL_length]; split <;> omega

set_option maxHeartbeats 3200000 in
theorem walk (W : World) (a0 : Value) (l0 : List Nat) (b0 : Sl W W.heap.size 1 a0 l0.length (bv l0)) (c0 : ∀ x ∈ l0, x < 256) (a1 : Int) (b1 : -9223372036854775808 ≤ a1 ∧ a1 ≤ 9223372036854775807) (a2 : Int) (b2 : -9223372036854775808 ≤ a2 ∧ a2 ≤ 9223372036854775807) :
    Calls Try.prog 6 #[a0, .int .i64 a1, .int .i64 a2] W (Says (.bool true) W) := by
  obtain ⟨A, cap, hv, hcap, hmx⟩ := b0.form
  subst hv
  obtain ⟨K, hK⟩ : ∃ K, K = min l0.length 1600 := ⟨_, rfl⟩
  have hK1 : K ≤ l0.length := by omega
  have hK2 : K ≤ 1600 := by omega
  have hif : (if (1600 : Int) < (l0.length : Int) then (1600 : Int) else (l0.length : Int)) = (K : Int) := by split <;> omega
  have hcut := fun u => run_cutTo (P := Try.prog) u stBytes A l0.length cap K (by omega)
  have hs0 := b0.cutTo hK1
  rw [Nat.mul_one, bv_take] at hs0
  have htl : (l0.take K).length = K := by rw [List.length_take]; omega
  have hc : ∀ x ∈ l0.take K, x < 256 := mem_take c0 K
  generalize l0.take K = L at *
  unfold maxLen at hmx
  have S0 := Lib.hid hs0
  have TL := Lib.hid htl
  have HC := Lib.hid hc
  clear b0 c0 hK hs0 htl hc
  obtain ⟨v0, hv0, hvw⟩ := mod_u64 a1 4094 (by omega) (by omega)
  have hvw' : wrap64 ((IntKind.u64.wrap a1).tmod 4094) = (v0 : Int) := hvw
  obtain ⟨u0, hu0, huw⟩ := mod_u64 a2 4094 (by omega) (by omega)
  have huw' : wrap64 ((IntKind.u64.wrap a2).tmod 4094) = (u0 : Int) := huw
  obtain ⟨v, hv⟩ : ∃ v, v = 1 + v0 := ⟨_, rfl⟩
  obtain ⟨u, hu⟩ : ∃ u, u = 1 + u0 := ⟨_, rfl⟩
  have hv2 : 1 ≤ v ∧ v ≤ 4094 := by clear hvw hvw' huw huw'; omega
  have hu2 : 1 ≤ u ∧ u ≤ 4094 := by clear hvw hvw' huw huw'; omega
  have hv1 : wrap64 (1 + (v0 : Int)) = (v : Int) := by rw [hv]; exact one_wrap v0 hv0
  have hu1 : wrap64 (1 + (u0 : Int)) = (u : Int) := by rw [hu]; exact one_wrap u0 hu0
  have HW := Lib.hid (And.intro hvw' (And.intro huw' (And.intro hv1 hu1)))
  clear hvw huw hv0 hu0 hv hu hvw' huw' hv1 hu1
  have hP : ∀ w, Sl w W.heap.size 1 (.slice A K cap) K (bv L) → W.heap.size ≤ w.heap.size → Calls Try.prog 16 #[.slice A K cap] w (ParsesTo L w) := fun w h1 h2 => ref_Parse HC.out (by rw [TL.out]; exact h1) h2
  have HP := Lib.hid hP
  clear hP
  by_cases he : errN L = 0
  · skip
    have HE := Lib.hid he
    have h60 := (at_len he).1
    have hat := at_cases L
    obtain ⟨t, htci⟩ : ∃ t, tciN L = t := ⟨_, rfl⟩
    have htl : t < 65536 := by rw [← htci]; exact tciN_lt HC.out
    obtain ⟨k, hk⟩ : ∃ k, newT L v = k := ⟨_, rfl⟩
    have hkl : k < 65536 := by rw [← hk]; exact newT_lt HC.out hv2.2
    have hkm : k % 4096 = v ∧ k / 4096 = t / 4096 := by rw [← hk]; unfold newT; rw [htci]; omega
    obtain ⟨C, hC⟩ : ∃ C, tagged L k = C := ⟨_, rfl⟩
    obtain ⟨X, hX⟩ : ∃ X, tagged L (newT L u) = X := ⟨_, rfl⟩
    obtain ⟨nc, hnc⟩ : ∃ nc, nc = K - atN L + 16 := ⟨_, rfl⟩
    have hCn : C.length = nc := by rw [← hC, tagged_len he, TL.out, hnc]
    have hXn : X.length = nc := by rw [← hX, tagged_len he, TL.out, hnc]
    have hCl : ∀ x ∈ C, x < 256 := by rw [← hC]; exact tagged_lt HC.out hkl
    obtain ⟨hCe, hCt, hC14⟩ := tagged_tells he k
    rw [hC] at hCe hCt hC14
    obtain ⟨o1a, o1b⟩ := outs_tag he hv2.1 hv2.2
    rw [hk, hC] at o1b
    obtain ⟨o2a, _⟩ := outs_bare hCe
    obtain ⟨at_, hatn⟩ : ∃ at_, at_ = atN L := ⟨_, rfl⟩
    obtain ⟨Q, hQ⟩ : ∃ Q, Q = L.take 12 ++ L.drop at_ := ⟨_, rfl⟩
    have o2b : outR C false 0 = padL Q := by rw [← hC, tagged_back he, hQ, hatn]
    obtain ⟨nd, hnd⟩ : ∃ nd, (padL Q).length = nd := ⟨_, rfl⟩
    have hnd60 : 60 ≤ nd := by rw [← hnd]; exact padL_60 Q
    obtain ⟨o3a, o3b⟩ := outs_tag hCe hu2.1 hu2.2
    have o3c : outR C true (u : Int) = X := by rw [o3b, ← hC, ← hk, tagged_again he hv2.2, hX]
    obtain ⟨o4a, o4b⟩ := outs_tag he hu2.1 hu2.2
    rw [hX] at o4b
    have hncl : nc ≤ 1600 := by have := (at_len he).2; rw [TL.out] at this; omega
    have hQn : Q.length = 12 + (K - at_) := by rw [hQ, List.length_append, List.length_take, List.length_drop, TL.out]; rw [TL.out] at h60; omega
    rw [TL.out] at h60
    rw [← hatn] at hat hnc
    have HAT := Lib.hid hatn
    have HQ := Lib.hid hQ
    have HQN := Lib.hid hQn
    have HND := Lib.hid hnd
    have O1 := Lib.hid (fun s w B (h : Sl w B 1 s K (bv L)) hB => out_ok (s := s) (w := w) (B := B) HC.out TL.out h hB o1a o1b hCn)
    have O2 := Lib.hid (fun s w B (h : Sl w B 1 s nc (bv C)) hB => out_ok (s := s) (w := w) (B := B) hCl hCn h hB o2a o2b hnd)
    have O3 := Lib.hid (fun s w B (h : Sl w B 1 s nc (bv C)) hB => out_ok (s := s) (w := w) (B := B) hCl hCn h hB o3a o3c hXn)
    have O4 := Lib.hid (fun s w B (h : Sl w B 1 s K (bv L)) hB => out_ok (s := s) (w := w) (B := B) HC.out TL.out h hB o4a o4b hXn)
    have PC := Lib.hid (fun s w B (h : Sl w B 1 s nc (bv C)) hB => parse_ok (s := s) (w := w) (B := B) hCl hCn h hB hCe hCt hC14)
    have hy : ∀ l : List Nat, sameB l l = true := fun l => sameB_yes rfl
    have HY := Lib.hid hy
    have HXN := Lib.hid hXn
    have z1 : (k : Int) % 4096 = (v : Int) := by omega
    obtain ⟨z, hz⟩ : ∃ z, z = t / 4096 := ⟨_, rfl⟩
    have z2 : (k : Int) / 4096 = (z : Int) := by omega
    have z3 : (t : Int) / 4096 = (z : Int) := by omega
    have Z := Lib.hid (And.intro z1 (And.intro z2 z3))
    have H16 : Hid (tagB L = true → at_ = 16) := by intro h; rw [HAT.out]; unfold atN; rw [h]; rfl
    have H12 : Hid (tagB L = false → at_ = 12) := by intro h; rw [HAT.out]; unfold atN; rw [h]; rfl
    clear hk hC hX hCn hXn hCl hCe hCt hC14 o1a o1b o2a o2b o3a o3b o3c o4a o4b hatn hQ hQn hnd hy z1 z2 z3 hz hkm hnc
    cases hT : tagB L
    · skip
      have RP := Lib.hid (fun s w B (h : Sl w B 1 s K (bv L)) hB => rparse_ok (s := s) (w := w) (B := B) HC.out TL.out h hB HE.out hT htci)
      obtain rfl := (H12.out hT)
      clear hT htci H16 H12 HAT HE HP
      obtain ⟨b1, off1, cap1, hvv, _, _, _, _⟩ := S0.out.at_ (show 0 < K by omega)
      injection hvv with e1 _ e2
      subst e1 e2
      have s12 := S0.out.cutTo (k := 12) (by omega)
      have sR := S0.out.dropAt (k := 12) (by omega)
      rw [bv_drop] at sR
      rw [Nat.mul_one, bv_take] at s12
      have S12 := Lib.hid s12
      have SR := Lib.hid sR
      have cR : ¬ cap = 12 := by omega
      have cR2 : ¬ (cap : Int) = 12 := by omega
      clear s12 sR
      obtain ⟨hvw', huw', hv1, hu1⟩ := HW.out
      clear HW
      go_enter Try.func6, Try.ntmps6
      go_wp2_with fail
      refine (RP.out _ _ _ S0.out (Nat.le_refl _)).mono ?_
      rintro e w1 ⟨d1, s1, y1, A1, n1, p1, rfl, hb⟩
      have B1 := Lib.hid (hb)
      clear hb
      obtain ⟨g, hg⟩ : ∃ g, g = w1.heap.size := ⟨_, rfl⟩
      obtain ⟨w2, hw2⟩ : ∃ w2, w2 = w1.alloc (.cells #[.int .u64 (d1 : Int), .int .u64 (s1 : Int), .bool false, .int .u16 (t : Int), .int .u16 (y1 : Int), .slice A1 n1 p1] 32) := ⟨_, rfl⟩
      have B2 : Hid (Below W.heap.size W w2) := by rw [hw2]; exact B1.out.alloc B1.out.size _
      have G0 : Hid (g < w2.heap.size) := by rw [hw2, hg]; simp [Hid]
      have F2 : Hid (w2.cell? ⟨g, 2, none⟩ = some (.bool false) ∧ w2.cell? ⟨g, 3, none⟩ = some (.int .u16 (t : Int))) := by rw [hw2, hg]; exact ⟨by simp [go_sem], by simp [go_sem]⟩
      go_wp2_with fail
      try simp only [hvw', huw', hv1, hu1]
      clear hvw' huw' hv1 hu1
      rw [← hw2]
      refine (told02 _).mono ?_
      rintro e w3 ⟨rfl, hb⟩
      have HG := Lib.hid hg
      clear hw2 hg
      have B3 := Lib.hid (B2.out.trans (hb.mono B2.out.size))
      have F3 := Lib.hid (And.intro ((hb.cell (p := ⟨g, 2, none⟩) (by have := G0.out; show g < w2.heap.size; omega)).trans F2.out.1) ((hb.cell (p := ⟨g, 3, none⟩) (by have := G0.out; show g < w2.heap.size; omega)).trans F2.out.2))
      have G3 := Lib.hid (Nat.lt_of_lt_of_le G0.out hb.size)
      clear hb B1 B2 F2 G0
      go_wp2_with fail
      refine (O1.out _ _ _ (S0.out.below B3.out) B3.out.size).mono ?_
      rintro e w4 ⟨A4, c4, rfl, hs, hb⟩
      have S4 := Lib.hid hs
      have B4 := Lib.hid (B3.out.trans (hb.mono B3.out.size))
      have F4 := Lib.hid (And.intro ((hb.cell (p := ⟨g, 2, none⟩) (by have := G3.out; show g < w3.heap.size; omega)).trans F3.out.1) ((hb.cell (p := ⟨g, 3, none⟩) (by have := G3.out; show g < w3.heap.size; omega)).trans F3.out.2))
      have G4 := Lib.hid (Nat.lt_of_lt_of_le G3.out hb.size)
      clear hb hs F3 G3
      go_wp2_with fail
      refine (O2.out _ _ _ S4.out (Nat.le_refl _)).mono ?_
      rintro e w5 ⟨A5, c5, rfl, hs, hb⟩
      have S5 := Lib.hid hs
      have B5 := Lib.hid (B4.out.trans (hb.mono B4.out.size))
      have S4_5 := Lib.hid ((S4.out.below hb).mono hb.size)
      have F5 := Lib.hid (And.intro ((hb.cell (p := ⟨g, 2, none⟩) (by have := G4.out; show g < w4.heap.size; omega)).trans F4.out.1) ((hb.cell (p := ⟨g, 3, none⟩) (by have := G4.out; show g < w4.heap.size; omega)).trans F4.out.2))
      have G5 := Lib.hid (Nat.lt_of_lt_of_le G4.out hb.size)
      clear hb hs F4 G4
      go_wp2_with fail
      refine (O3.out _ _ _ S4_5.out (Nat.le_refl _)).mono ?_
      rintro e w6 ⟨A6, c6, rfl, hs, hb⟩
      have S6 := Lib.hid hs
      have B6 := Lib.hid (B5.out.trans (hb.mono B5.out.size))
      have S4_6 := Lib.hid ((S4_5.out.below hb).mono hb.size)
      have S5_6 := Lib.hid ((S5.out.below hb).mono hb.size)
      have F6 := Lib.hid (And.intro ((hb.cell (p := ⟨g, 2, none⟩) (by have := G5.out; show g < w5.heap.size; omega)).trans F5.out.1) ((hb.cell (p := ⟨g, 3, none⟩) (by have := G5.out; show g < w5.heap.size; omega)).trans F5.out.2))
      have G6 := Lib.hid (Nat.lt_of_lt_of_le G5.out hb.size)
      clear hb hs F5 G5
      go_wp2_with fail
      refine (O4.out _ _ _ (S0.out.below B6.out) B6.out.size).mono ?_
      rintro e w7 ⟨A7, c7, rfl, hs, hb⟩
      have S7 := Lib.hid hs
      have B7 := Lib.hid (B6.out.trans (hb.mono B6.out.size))
      have S4_7 := Lib.hid ((S4_6.out.below hb).mono hb.size)
      have S5_7 := Lib.hid ((S5_6.out.below hb).mono hb.size)
      have S6_7 := Lib.hid ((S6.out.below hb).mono hb.size)
      have F7 := Lib.hid (And.intro ((hb.cell (p := ⟨g, 2, none⟩) (by have := G6.out; show g < w6.heap.size; omega)).trans F6.out.1) ((hb.cell (p := ⟨g, 3, none⟩) (by have := G6.out; show g < w6.heap.size; omega)).trans F6.out.2))
      have G7 := Lib.hid (Nat.lt_of_lt_of_le G6.out hb.size)
      clear hb hs F6 G6
      go_wp2_with fail
      refine (ref_Same (l := X) (m := X) (by rw [HXN.out]; exact S6_7.out) (by rw [HXN.out]; exact S7.out)).mono ?_
      rw [HY.out]
      rintro e w8 ⟨rfl, n8, rfl⟩
      go_wp2_with fail
      refine (PC.out _ _ _ (S4_7.out.drewN _) (Nat.le_refl _)).mono ?_
      rintro e w9 ⟨d9, s9, y9, A9, n9, p9, rfl, hb⟩
      have B9 := Lib.hid ((below_drewN B7.out n8).trans (hb.mono B7.out.size))
      have S5_9 := Lib.hid (((S5_7.out.drewN n8).below hb).mono hb.size)
      have hc2 : w9.cell? ⟨g, 2, none⟩ = some (.bool false) := (hb.cell (p := ⟨g, 2, none⟩) (by have := G7.out; show g < w7.heap.size; omega)).trans F7.out.1
      have hc3 : w9.cell? ⟨g, 3, none⟩ = some (.int .u16 (t : Int)) := (hb.cell (p := ⟨g, 3, none⟩) (by have := G7.out; show g < w7.heap.size; omega)).trans F7.out.2
      have hg9 : g < w9.heap.size := Nat.lt_of_lt_of_le G7.out hb.size
      clear hb B3 B4 B5 B6 B7 F7 G7
      rw [HG.out] at hc2 hc3 hg9
      obtain ⟨z1, z2, z3⟩ := Z.out
      have hnv : ((v : Int) != (v : Int)) = false := by simp
      have hnz : ((z : Int) != (z : Int)) = false := by simp
      have hnd14 : ¬ (nd : Int) < 14 := by omega
      go_wp2
      obtain ⟨w10, hw10⟩ : ∃ w10, w10 = w9.alloc (.cells #[.int .u64 (d9 : Int), .int .u64 (s9 : Int), .bool true, .int .u16 (k : Int), .int .u16 (y9 : Int), .slice A9 n9 p9] 27) := ⟨_, rfl⟩
      have hb10 : Below W.heap.size W w10 := by rw [hw10]; exact B9.out.alloc B9.out.size _
      have hz10 := hb10.size
      have SD : Hid (Sl w10 w10.heap.size 1 (.slice A5 nd c5) nd (bv (padL Q))) := by rw [hw10]; exact (S5_9.out.alloc (Nat.le_refl _) _).mono (by simp)
      rw [← hw10]
      clear hw10 hc2 hc3 hg9 z1 z2 z3 hnv hnz hnd14 B9 S5_9 HG
      have hKat : 12 ≤ K := by omega
      have hKa : (12 : Int) ≤ (K : Int) := by omega
      have hKe : (12 : Int) ≤ (cap : Int) := by omega
      have hKb : (12 : Int) ≤ (K : Int) := by omega
      have hKi : (K : Int) - 12 = ((K - 12 : Nat) : Int) := by omega
      have hKc : (12 : Int) ≤ (cap : Int) := by omega
      have hKd : (K : Int) ≤ (cap : Int) := by omega
      go_region_held3 (fun _ => True)
        (first | trivial | go_keep)
        (first
          | (refine step_app _ (by rfl) stBytes _ _ (by rfl) w10.heap.size (.slice (some ⟨w10.heap.size, 0, none⟩) 0 0) 0 [] (by rfl) (by refine own_empty_at ?_ ?_ <;> first | omega | (simp; done) | (simp; omega)) W.heap.size _ 12 (bv (L.take 12)) (by rfl) (S12.out.below (by (repeat' (first | (with_reducible exact Below.refl _ _) | (with_reducible assumption) | (with_reducible refine Below.setCell ?_ ?_ _) | (with_reducible refine Below.alloc ?_ ?_ _) | (with_reducible refine below_drewN ?_ _) | (with_reducible refine Below.drew ?_) | go_size)))) (bv_one _) (by omega) (by go_size) ?_; intro v2 w2 ho2 hg2 hat2 hb2; have hz2 : w10.heap.size + 1 ≤ w2.heap.size := (by simpa using hb2.size); have hbw2 : Below W.heap.size W w2 := Below.trans ((hb10.alloc hz10 (.cells #[] 5)).drew) (hb2.mono hz10))
          | (refine step_app _ (by rfl) stBytes _ _ (by rfl) w10.heap.size v2 (0 + 12) _ (by rfl) ho2 W.heap.size _ (K - 12) (bv (L.drop 12)) (by rfl) (SR.out.below hbw2) (bv_one _) (by omega) (by go_size) ?_; intro v5 w5 ho5 hg5 hat5 hb5))
      all_goals
        have hb5' : Below W.heap.size W w5 := hbw2.trans (hb5.mono (by have := hbw2.size; omega))
        have hwl : [] ++ bv (L.take 12) ++ bv (L.drop 12) = bv Q := by rw [HQ.out, List.nil_append, bv_append]
        rw [hwl, show 0 + 12 + (K - 12) = 12 + (K - 12) from rfl] at ho5
        obtain ⟨A8, c8, hv8, _, _⟩ := (Sl.of_own ho5).form
        subst hv8
        have HO5 := Lib.hid ho5
        have HB5 := Lib.hid hb5'
        have hz5 : w10.heap.size ≤ w5.heap.size := Nat.le_trans (by omega) hb5.size
        have hbt : Below w10.heap.size w10 w5 := ((((Below.refl _ _).alloc (Nat.le_refl _) (.cells #[] 5)).drew).trans hb2).trans hb5
        have SD5 := Lib.hid (SD.out.below hbt)
        clear ho5 hwl hg5 hat5 hb5 hb2 ho2 hg2 hat2 hbw2 hb5' hz2 hb10 hKat hKa hKb hKi hKc hKd hKe cR cR2 hbt SD
        obtain ⟨nq, hnq⟩ : ∃ nq, nq = 12 + (K - 12) := ⟨_, rfl⟩
        rw [← hnq] at HO5 HQN ⊢
        have hnql : nq ≤ 1612 := by omega
        clear hnq
        go_wp2
        go_loopw [20] (fun u wr => ∃ (j : Nat) (A : Option Addr) (c : Nat), (j = 0 ∨ nq + j ≤ 60) ∧ u = .slice A (nq + j) c ∧ Hid (wr.ownsRow w10.heap.size 5 1 (.slice A (nq + j) c) (nq + j) (bv (Q ++ List.replicate j 0))) ∧ Hid (Below w10.heap.size w5 wr)) (fun u _ => 60 - (match u with | .slice _ n _ => n | _ => 0))
        case atStart => exact ⟨0, A8, c8, .inl rfl, rfl, by unfold Hid; simpa using HO5.out, Below.refl _ _⟩
        case round =>
          obtain ⟨j, A, c, hj, rfl, HOW, HBL⟩ := hrel
          have hsz : w10.heap.size ≤ wr.heap.size := Nat.le_trans hz5 HBL.out.size
          by_cases hlt : nq + j < 60
          · go_wp2_with (first
              | (at_builtin; refine wpList_apv _ rfl stBytes _ _ rfl w10.heap.size (.slice A (nq + j) c) (nq + j) (bv (Q ++ List.replicate j 0)) rfl (HOW.out.alloc _) (wr.heap.size + 1) _ 1 (bv [0]) rfl (Sl.lit wr #[.int .u8 0] _ 1 rfl (by decide)) (bv_one _) (by omega) (by simp; omega) ?_; intro A1 c1 w1 hown1 hg1 hat1 hbel1))
            have HR : bv (Q ++ List.replicate (j + 1) 0) = bv (Q ++ List.replicate j 0) ++ bv [0] := by
              rw [List.replicate_succ', ← List.append_assoc, bv_append]
            rw [← HR] at hown1
            have HO1 := Lib.hid hown1
            have HBL1 := Lib.hid ((HBL.out.alloc hsz (.cells #[.int .u8 0] 5)).trans hbel1)
            clear hown1 HR hg1 hat1 hbel1
            go_roundw
            case rel => exact ⟨j + 1, A1, c1, .inr (by omega), rfl, HO1.out, HBL1.out⟩
            case measure => simp; omega
          · have hpl : padL Q = Q ++ List.replicate j 0 := by
              unfold padL
              rcases hj with rfl | hj
              · rw [show 60 - Q.length = 0 by have := HQN.out; omega]
              · rw [show 60 - Q.length = j by have := HQN.out; omega]
            have hpn : nd = nq + j := by rw [← HND.out, hpl, List.length_append, HQN.out]; simp
            subst hpn
            rw [← hpl] at HOW
            clear hpl
            go_wp2_with fail
            refine (ref_Same (l := padL Q) (m := padL Q) (by rw [HND.out]; exact (SD5.out.below' HBL.out (Nat.le_refl _))) (by rw [HND.out]; exact Sl.of_own HOW.out)).mono ?_
            rw [HY.out]
            rintro e w8 ⟨rfl, n9, rfl⟩
            go_wp2
            go_ret
            exact ⟨by simp, below_drewN (HB5.out.trans (HBL.out.mono hz10)) _⟩
    · skip
      have RP := Lib.hid (fun s w B (h : Sl w B 1 s K (bv L)) hB => rparse_ok (s := s) (w := w) (B := B) HC.out TL.out h hB HE.out hT htci)
      obtain rfl := (H16.out hT)
      clear hT htci H16 H12 HAT HE HP
      obtain ⟨b1, off1, cap1, hvv, _, _, _, _⟩ := S0.out.at_ (show 0 < K by omega)
      injection hvv with e1 _ e2
      subst e1 e2
      have s12 := S0.out.cutTo (k := 12) (by omega)
      have sR := S0.out.dropAt (k := 16) (by omega)
      rw [bv_drop] at sR
      rw [Nat.mul_one, bv_take] at s12
      have S12 := Lib.hid s12
      have SR := Lib.hid sR
      have cR : ¬ cap = 16 := by omega
      have cR2 : ¬ (cap : Int) = 16 := by omega
      clear s12 sR
      obtain ⟨hvw', huw', hv1, hu1⟩ := HW.out
      clear HW
      go_enter Try.func6, Try.ntmps6
      go_wp2_with fail
      refine (RP.out _ _ _ S0.out (Nat.le_refl _)).mono ?_
      rintro e w1 ⟨d1, s1, y1, A1, n1, p1, rfl, hb⟩
      have B1 := Lib.hid (hb)
      clear hb
      obtain ⟨g, hg⟩ : ∃ g, g = w1.heap.size := ⟨_, rfl⟩
      obtain ⟨w2, hw2⟩ : ∃ w2, w2 = w1.alloc (.cells #[.int .u64 (d1 : Int), .int .u64 (s1 : Int), .bool true, .int .u16 (t : Int), .int .u16 (y1 : Int), .slice A1 n1 p1] 32) := ⟨_, rfl⟩
      have B2 : Hid (Below W.heap.size W w2) := by rw [hw2]; exact B1.out.alloc B1.out.size _
      have G0 : Hid (g < w2.heap.size) := by rw [hw2, hg]; simp [Hid]
      have F2 : Hid (w2.cell? ⟨g, 2, none⟩ = some (.bool true) ∧ w2.cell? ⟨g, 3, none⟩ = some (.int .u16 (t : Int))) := by rw [hw2, hg]; exact ⟨by simp [go_sem], by simp [go_sem]⟩
      go_wp2_with fail
      try simp only [hvw', huw', hv1, hu1]
      clear hvw' huw' hv1 hu1
      rw [← hw2]
      refine (told02 _).mono ?_
      rintro e w3 ⟨rfl, hb⟩
      have HG := Lib.hid hg
      clear hw2 hg
      have B3 := Lib.hid (B2.out.trans (hb.mono B2.out.size))
      have F3 := Lib.hid (And.intro ((hb.cell (p := ⟨g, 2, none⟩) (by have := G0.out; show g < w2.heap.size; omega)).trans F2.out.1) ((hb.cell (p := ⟨g, 3, none⟩) (by have := G0.out; show g < w2.heap.size; omega)).trans F2.out.2))
      have G3 := Lib.hid (Nat.lt_of_lt_of_le G0.out hb.size)
      clear hb B1 B2 F2 G0
      go_wp2_with fail
      refine (O1.out _ _ _ (S0.out.below B3.out) B3.out.size).mono ?_
      rintro e w4 ⟨A4, c4, rfl, hs, hb⟩
      have S4 := Lib.hid hs
      have B4 := Lib.hid (B3.out.trans (hb.mono B3.out.size))
      have F4 := Lib.hid (And.intro ((hb.cell (p := ⟨g, 2, none⟩) (by have := G3.out; show g < w3.heap.size; omega)).trans F3.out.1) ((hb.cell (p := ⟨g, 3, none⟩) (by have := G3.out; show g < w3.heap.size; omega)).trans F3.out.2))
      have G4 := Lib.hid (Nat.lt_of_lt_of_le G3.out hb.size)
      clear hb hs F3 G3
      go_wp2_with fail
      refine (O2.out _ _ _ S4.out (Nat.le_refl _)).mono ?_
      rintro e w5 ⟨A5, c5, rfl, hs, hb⟩
      have S5 := Lib.hid hs
      have B5 := Lib.hid (B4.out.trans (hb.mono B4.out.size))
      have S4_5 := Lib.hid ((S4.out.below hb).mono hb.size)
      have F5 := Lib.hid (And.intro ((hb.cell (p := ⟨g, 2, none⟩) (by have := G4.out; show g < w4.heap.size; omega)).trans F4.out.1) ((hb.cell (p := ⟨g, 3, none⟩) (by have := G4.out; show g < w4.heap.size; omega)).trans F4.out.2))
      have G5 := Lib.hid (Nat.lt_of_lt_of_le G4.out hb.size)
      clear hb hs F4 G4
      go_wp2_with fail
      refine (O3.out _ _ _ S4_5.out (Nat.le_refl _)).mono ?_
      rintro e w6 ⟨A6, c6, rfl, hs, hb⟩
      have S6 := Lib.hid hs
      have B6 := Lib.hid (B5.out.trans (hb.mono B5.out.size))
      have S4_6 := Lib.hid ((S4_5.out.below hb).mono hb.size)
      have S5_6 := Lib.hid ((S5.out.below hb).mono hb.size)
      have F6 := Lib.hid (And.intro ((hb.cell (p := ⟨g, 2, none⟩) (by have := G5.out; show g < w5.heap.size; omega)).trans F5.out.1) ((hb.cell (p := ⟨g, 3, none⟩) (by have := G5.out; show g < w5.heap.size; omega)).trans F5.out.2))
      have G6 := Lib.hid (Nat.lt_of_lt_of_le G5.out hb.size)
      clear hb hs F5 G5
      go_wp2_with fail
      refine (O4.out _ _ _ (S0.out.below B6.out) B6.out.size).mono ?_
      rintro e w7 ⟨A7, c7, rfl, hs, hb⟩
      have S7 := Lib.hid hs
      have B7 := Lib.hid (B6.out.trans (hb.mono B6.out.size))
      have S4_7 := Lib.hid ((S4_6.out.below hb).mono hb.size)
      have S5_7 := Lib.hid ((S5_6.out.below hb).mono hb.size)
      have S6_7 := Lib.hid ((S6.out.below hb).mono hb.size)
      have F7 := Lib.hid (And.intro ((hb.cell (p := ⟨g, 2, none⟩) (by have := G6.out; show g < w6.heap.size; omega)).trans F6.out.1) ((hb.cell (p := ⟨g, 3, none⟩) (by have := G6.out; show g < w6.heap.size; omega)).trans F6.out.2))
      have G7 := Lib.hid (Nat.lt_of_lt_of_le G6.out hb.size)
      clear hb hs F6 G6
      go_wp2_with fail
      refine (ref_Same (l := X) (m := X) (by rw [HXN.out]; exact S6_7.out) (by rw [HXN.out]; exact S7.out)).mono ?_
      rw [HY.out]
      rintro e w8 ⟨rfl, n8, rfl⟩
      go_wp2_with fail
      refine (PC.out _ _ _ (S4_7.out.drewN _) (Nat.le_refl _)).mono ?_
      rintro e w9 ⟨d9, s9, y9, A9, n9, p9, rfl, hb⟩
      have B9 := Lib.hid ((below_drewN B7.out n8).trans (hb.mono B7.out.size))
      have S5_9 := Lib.hid (((S5_7.out.drewN n8).below hb).mono hb.size)
      have hc2 : w9.cell? ⟨g, 2, none⟩ = some (.bool true) := (hb.cell (p := ⟨g, 2, none⟩) (by have := G7.out; show g < w7.heap.size; omega)).trans F7.out.1
      have hc3 : w9.cell? ⟨g, 3, none⟩ = some (.int .u16 (t : Int)) := (hb.cell (p := ⟨g, 3, none⟩) (by have := G7.out; show g < w7.heap.size; omega)).trans F7.out.2
      have hg9 : g < w9.heap.size := Nat.lt_of_lt_of_le G7.out hb.size
      clear hb B3 B4 B5 B6 B7 F7 G7
      rw [HG.out] at hc2 hc3 hg9
      obtain ⟨z1, z2, z3⟩ := Z.out
      have hnv : ((v : Int) != (v : Int)) = false := by simp
      have hnz : ((z : Int) != (z : Int)) = false := by simp
      have hnd14 : ¬ (nd : Int) < 14 := by omega
      go_wp2
      obtain ⟨w10, hw10⟩ : ∃ w10, w10 = w9.alloc (.cells #[.int .u64 (d9 : Int), .int .u64 (s9 : Int), .bool true, .int .u16 (k : Int), .int .u16 (y9 : Int), .slice A9 n9 p9] 27) := ⟨_, rfl⟩
      have hb10 : Below W.heap.size W w10 := by rw [hw10]; exact B9.out.alloc B9.out.size _
      have hz10 := hb10.size
      have SD : Hid (Sl w10 w10.heap.size 1 (.slice A5 nd c5) nd (bv (padL Q))) := by rw [hw10]; exact (S5_9.out.alloc (Nat.le_refl _) _).mono (by simp)
      rw [← hw10]
      clear hw10 hc2 hc3 hg9 z1 z2 z3 hnv hnz hnd14 B9 S5_9 HG
      have hKat : 16 ≤ K := by omega
      have hKa : (16 : Int) ≤ (K : Int) := by omega
      have hKe : (16 : Int) ≤ (cap : Int) := by omega
      have hKb : (12 : Int) ≤ (K : Int) := by omega
      have hKi : (K : Int) - 16 = ((K - 16 : Nat) : Int) := by omega
      have hKc : (12 : Int) ≤ (cap : Int) := by omega
      have hKd : (K : Int) ≤ (cap : Int) := by omega
      go_region_held3 (fun _ => True)
        (first | trivial | go_keep)
        (first
          | (refine step_app _ (by rfl) stBytes _ _ (by rfl) w10.heap.size (.slice (some ⟨w10.heap.size, 0, none⟩) 0 0) 0 [] (by rfl) (by refine own_empty_at ?_ ?_ <;> first | omega | (simp; done) | (simp; omega)) W.heap.size _ 12 (bv (L.take 12)) (by rfl) (S12.out.below (by (repeat' (first | (with_reducible exact Below.refl _ _) | (with_reducible assumption) | (with_reducible refine Below.setCell ?_ ?_ _) | (with_reducible refine Below.alloc ?_ ?_ _) | (with_reducible refine below_drewN ?_ _) | (with_reducible refine Below.drew ?_) | go_size)))) (bv_one _) (by omega) (by go_size) ?_; intro v2 w2 ho2 hg2 hat2 hb2; have hz2 : w10.heap.size + 1 ≤ w2.heap.size := (by simpa using hb2.size); have hbw2 : Below W.heap.size W w2 := Below.trans ((hb10.alloc hz10 (.cells #[] 5)).drew) (hb2.mono hz10))
          | (refine step_app _ (by rfl) stBytes _ _ (by rfl) w10.heap.size v2 (0 + 12) _ (by rfl) ho2 W.heap.size _ (K - 16) (bv (L.drop 16)) (by rfl) (SR.out.below hbw2) (bv_one _) (by omega) (by go_size) ?_; intro v5 w5 ho5 hg5 hat5 hb5))
      all_goals
        have hb5' : Below W.heap.size W w5 := hbw2.trans (hb5.mono (by have := hbw2.size; omega))
        have hwl : [] ++ bv (L.take 12) ++ bv (L.drop 16) = bv Q := by rw [HQ.out, List.nil_append, bv_append]
        rw [hwl, show 0 + 12 + (K - 16) = 12 + (K - 16) from rfl] at ho5
        obtain ⟨A8, c8, hv8, _, _⟩ := (Sl.of_own ho5).form
        subst hv8
        have HO5 := Lib.hid ho5
        have HB5 := Lib.hid hb5'
        have hz5 : w10.heap.size ≤ w5.heap.size := Nat.le_trans (by omega) hb5.size
        have hbt : Below w10.heap.size w10 w5 := ((((Below.refl _ _).alloc (Nat.le_refl _) (.cells #[] 5)).drew).trans hb2).trans hb5
        have SD5 := Lib.hid (SD.out.below hbt)
        clear ho5 hwl hg5 hat5 hb5 hb2 ho2 hg2 hat2 hbw2 hb5' hz2 hb10 hKat hKa hKb hKi hKc hKd hKe cR cR2 hbt SD
        obtain ⟨nq, hnq⟩ : ∃ nq, nq = 12 + (K - 16) := ⟨_, rfl⟩
        rw [← hnq] at HO5 HQN ⊢
        have hnql : nq ≤ 1612 := by omega
        clear hnq
        go_wp2
        go_loopw [20] (fun u wr => ∃ (j : Nat) (A : Option Addr) (c : Nat), (j = 0 ∨ nq + j ≤ 60) ∧ u = .slice A (nq + j) c ∧ Hid (wr.ownsRow w10.heap.size 5 1 (.slice A (nq + j) c) (nq + j) (bv (Q ++ List.replicate j 0))) ∧ Hid (Below w10.heap.size w5 wr)) (fun u _ => 60 - (match u with | .slice _ n _ => n | _ => 0))
        case atStart => exact ⟨0, A8, c8, .inl rfl, rfl, by unfold Hid; simpa using HO5.out, Below.refl _ _⟩
        case round =>
          obtain ⟨j, A, c, hj, rfl, HOW, HBL⟩ := hrel
          have hsz : w10.heap.size ≤ wr.heap.size := Nat.le_trans hz5 HBL.out.size
          by_cases hlt : nq + j < 60
          · go_wp2_with (first
              | (at_builtin; refine wpList_apv _ rfl stBytes _ _ rfl w10.heap.size (.slice A (nq + j) c) (nq + j) (bv (Q ++ List.replicate j 0)) rfl (HOW.out.alloc _) (wr.heap.size + 1) _ 1 (bv [0]) rfl (Sl.lit wr #[.int .u8 0] _ 1 rfl (by decide)) (bv_one _) (by omega) (by simp; omega) ?_; intro A1 c1 w1 hown1 hg1 hat1 hbel1))
            have HR : bv (Q ++ List.replicate (j + 1) 0) = bv (Q ++ List.replicate j 0) ++ bv [0] := by
              rw [List.replicate_succ', ← List.append_assoc, bv_append]
            rw [← HR] at hown1
            have HO1 := Lib.hid hown1
            have HBL1 := Lib.hid ((HBL.out.alloc hsz (.cells #[.int .u8 0] 5)).trans hbel1)
            clear hown1 HR hg1 hat1 hbel1
            go_roundw
            case rel => exact ⟨j + 1, A1, c1, .inr (by omega), rfl, HO1.out, HBL1.out⟩
            case measure => simp; omega
          · have hpl : padL Q = Q ++ List.replicate j 0 := by
              unfold padL
              rcases hj with rfl | hj
              · rw [show 60 - Q.length = 0 by have := HQN.out; omega]
              · rw [show 60 - Q.length = j by have := HQN.out; omega]
            have hpn : nd = nq + j := by rw [← HND.out, hpl, List.length_append, HQN.out]; simp
            subst hpn
            rw [← hpl] at HOW
            clear hpl
            go_wp2_with fail
            refine (ref_Same (l := padL Q) (m := padL Q) (by rw [HND.out]; exact (SD5.out.below' HBL.out (Nat.le_refl _))) (by rw [HND.out]; exact Sl.of_own HOW.out)).mono ?_
            rw [HY.out]
            rintro e w8 ⟨rfl, n9, rfl⟩
            go_wp2
            go_ret
            exact ⟨by simp, below_drewN (HB5.out.trans (HBL.out.mono hz10)) _⟩
  · have HE := Lib.hid he
    clear he
    obtain ⟨hvw', huw', hv1, hu1⟩ := HW.out
    clear HW
    go_enter Try.func6, Try.ntmps6
    go_wp2_with fail
    refine (HP.out _ S0.out (Nat.le_refl _)).mono ?_
    intro e w1 hp
    obtain ⟨A1, c1, rfl, _, hb1⟩ := ParsesTo.err hp HE.out
    obtain ⟨E, hEE⟩ : ∃ E, E = errN L := ⟨_, rfl⟩
    have hE0 : ((E : Int) != 0) = true := by have := HE.out; clear hvw' huw' hv1 hu1; simp; omega
    rw [← hEE]
    have B1 := Lib.hid hb1
    clear hp hb1 hEE
    go_wp2_with fail
    refine (told02 _).mono ?_
    rintro e w2 ⟨rfl, hb2⟩
    clear hvw' huw' hv1 hu1
    have B2 := Lib.hid (Below.trans (B1.out.alloc B1.out.size _) (hb2.mono (by have := B1.out.size; simp; omega)))
    clear hb2
    go_wp2_with fail
    refine (told02 _).mono ?_
    rintro e w3 ⟨rfl, hb3⟩
    have B3 := Lib.hid (B2.out.trans (hb3.mono B2.out.size))
    clear hb3
    go_wp2
    go_ret
    exact ⟨by simp, B3.out⟩

set_option maxRecDepth 100000 in
/-- What the walk gives, for every argument: the row's own words. -/
theorem contract (H : Type) (enc : TypeId × Value → H) (W : World) (base : Nat) (args : Array Value) (ds gs : List (DataW H)) (before : List MemPlace)
    (hval : ∀ (j : Nat) t v, Try.f6.params[j]? = some t → args[j]? = some v → Value.okWide Try.prog W .any base t v)
    (hW : DataW.Whole enc Try.prog Try.f6.params.toList Rows.frameBackSpec.vars false W args.toList ds gs before) :
    Calls Try.prog 6 args W fun e W' => ∃ v, e = .returned v ∧ Rows.frameBackSpec.post enc Try.prog Try.f6 false true false false W args v W' := by
  have hW' := hW
  obtain ⟨p, q, hA0, hV, rfl, hfz, hnd⟩ := hW
  have hA : DataW.TrodAll enc Try.prog W 0 (fun _ => true) true Try.f6.params.toList args.toList ds p := hA0
  rw [Try.params6] at hA hval
  obtain ⟨v0, vs0, d0, ds0, p0, q0, hargs, rfl, rfl, h0, r0⟩ := trodAll_cons hA
  obtain ⟨v1, vs1, d1, ds1, p1, q1, rfl, rfl, rfl, h1, r1⟩ := trodAll_cons r0
  obtain ⟨v2, vs2, d2, ds2, p2, q2, rfl, rfl, rfl, h2, r2⟩ := trodAll_cons r1
  obtain ⟨rfl, rfl, rfl⟩ := trodAll_nil r2
  obtain rfl : args = #[v0, v1, v2] := by cases args; simp_all
  obtain ⟨l0, b0, c0⟩ := open_bytes Try.underlying22 Try.underlying5 (by kernel_rfl) (hval 0 22 v0 rfl rfl) h0
  obtain ⟨a1, rfl, b1⟩ := open_i64 Try.underlying3 (hval 1 3 v1 rfl rfl) h1
  obtain ⟨a2, rfl, b2⟩ := open_i64 Try.underlying3 (hval 2 3 v2 rfl rfl) h2
  refine (walk W v0 l0 b0 c0 a1 b1 a2 b2).mono fun e W' ⟨he, hb⟩ => ?_
  subst he
  exact close_true (by kernel_rfl) Try.underlying4 (by kernel_rfl) (by kernel_rfl) rfl rfl hW' hb

set_option maxRecDepth 100000 in
theorem lifted (os : Os) (started : os.Started) (H : Type) (enc : TypeId × Value → H) :
    ReturnsInHanded {} Try.checked os 6 .any (Rows.frameBackSpec.pre6 enc Try.prog Try.f6 Rows.frameBackRow.domain false) (Rows.frameBackSpec.post enc Try.prog Try.f6 false true false false) := by
  refine returnsInHanded_of_change (C := Try.checked) own started (by kernel_rfl) Try.func6
    (ChangeSpec.witness6 (enc := enc) (C := Try.checked) false ⟨#[], #[.slice none 0 0, .int .i64 0, .int .i64 0], []⟩ 8 (by kernel_rfl) (by kernel_rfl) (by kernel_rfl) (by kernel_rfl)) ?_
  intro W base args ds gs before hval hW _ _
  exact contract H enc W base args ds gs before hval hW

theorem proved : Rows.FrameBackSaid :=
  OpenClaim.holds_of_wide 6 Try.f6 rfl rfl rfl rfl rfl rfl rfl ⟨rfl, rfl, rfl, rfl, rfl⟩ rfl rfl rfl rfl rfl (by kernel_rfl) Try.func6 (by kernel_rfl)
    (of_decide_eq_true (by kernel_rfl)) (by unfold Func.isWrapper; first | (rw [if_pos (by decide +kernel)]; kernel_rfl) | (rw [if_neg (by decide +kernel)]; exact ⟨rfl, rfl⟩))
    (fun os started H enc _ => lifted os started H enc)
#print axioms proved
end Go.Proofs.Ythamjkccljhhcaa.frameBack
