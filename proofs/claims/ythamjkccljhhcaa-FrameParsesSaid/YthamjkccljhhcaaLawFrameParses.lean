/-
  Of all bytes the program tells what they tell, or the error; what is parsed is written by just these bytes; what is handed in stays. No condition.
-/
import Derived.Test.YthamjkccljhhcaaRows
import Derived.Test.YthamjkccljhhcaaFrameT
import Derived.Test.YthamjkccljhhcaaFrameK
import Derived.Deep.RegionHeld3
import Derived.Test.YthamjkccljhhcaaFrameS
import Derived.Test.YthamjkccljhhcaaFrameW
import Derived.Test.YthamjkccljhhcaaFrameY
import Derived.Test.YthamjkccljhhcaaPlainWr
import Derived.IntWalk
import Derived.WalkKit
import Derived.ProofKit
import Derived.OpenShut
namespace Go.Proofs.Ythamjkccljhhcaa.frameParses
open Go.ChangeShapes Go.WideShapes Go.ChangeAt Go.RowKit
open Go.ChangeMaps (open_string)
set_option linter.unusedVariables false

theorem own : ownKnob Try.prog.godebug = none := by kernel_rfl
theorem keep12 {w w' : World} {b b' : Nat} {v0 v1 v2 v3 v4 v5 u0 u1 u2 u3 u4 u5 : Value} (h : w.cell? ⟨b, 0, none⟩ = some v0 ∧ w.cell? ⟨b, 1, none⟩ = some v1 ∧ w.cell? ⟨b, 2, none⟩ = some v2 ∧ w.cell? ⟨b, 3, none⟩ = some v3 ∧ w.cell? ⟨b, 4, none⟩ = some v4 ∧ w.cell? ⟨b, 5, none⟩ = some v5 ∧ w.cell? ⟨b', 0, none⟩ = some u0 ∧ w.cell? ⟨b', 1, none⟩ = some u1 ∧ w.cell? ⟨b', 2, none⟩ = some u2 ∧ w.cell? ⟨b', 3, none⟩ = some u3 ∧ w.cell? ⟨b', 4, none⟩ = some u4 ∧ w.cell? ⟨b', 5, none⟩ = some u5) (hk : ∀ p : Addr, p.block = b ∨ p.block = b' → w'.cell? p = w.cell? p) :
    w'.cell? ⟨b, 0, none⟩ = some v0 ∧ w'.cell? ⟨b, 1, none⟩ = some v1 ∧ w'.cell? ⟨b, 2, none⟩ = some v2 ∧ w'.cell? ⟨b, 3, none⟩ = some v3 ∧ w'.cell? ⟨b, 4, none⟩ = some v4 ∧ w'.cell? ⟨b, 5, none⟩ = some v5 ∧ w'.cell? ⟨b', 0, none⟩ = some u0 ∧ w'.cell? ⟨b', 1, none⟩ = some u1 ∧ w'.cell? ⟨b', 2, none⟩ = some u2 ∧ w'.cell? ⟨b', 3, none⟩ = some u3 ∧ w'.cell? ⟨b', 4, none⟩ = some u4 ∧ w'.cell? ⟨b', 5, none⟩ = some u5 :=
  ⟨(hk _ (Or.inl rfl)).trans h.1, (hk _ (Or.inl rfl)).trans h.2.1, (hk _ (Or.inl rfl)).trans h.2.2.1, (hk _ (Or.inl rfl)).trans h.2.2.2.1, (hk _ (Or.inl rfl)).trans h.2.2.2.2.1, (hk _ (Or.inl rfl)).trans h.2.2.2.2.2.1, (hk _ (Or.inr rfl)).trans h.2.2.2.2.2.2.1, (hk _ (Or.inr rfl)).trans h.2.2.2.2.2.2.2.1, (hk _ (Or.inr rfl)).trans h.2.2.2.2.2.2.2.2.1, (hk _ (Or.inr rfl)).trans h.2.2.2.2.2.2.2.2.2.1, (hk _ (Or.inr rfl)).trans h.2.2.2.2.2.2.2.2.2.2.1, (hk _ (Or.inr rfl)).trans h.2.2.2.2.2.2.2.2.2.2.2⟩
theorem from_raw (d s c y : Nat) (t : Bool) (l : List Nat) {k : Nat} (hk : l.length = k) (hk2 : k ≤ 140737488351232) {lv : Value} {w : World} {B : Nat} (hv : Sl w B 1 lv k (bv l)) (hB : B ≤ w.heap.size) :
    Calls Try.prog 19 #[.agg #[.int .u64 (d : Int), .int .u64 (s : Int), .bool t, .int .u16 (c : Int), .int .u16 (y : Int), lv]] w fun e w' => ∃ A p, e = .returned (.agg #[.int .u64 (d : Int), .int .u64 (s : Int), .bool t, .int .u16 (c : Int), .int .u16 (y : Int), .slice A k p]) ∧ Sl w' w'.heap.size 1 (.slice A k p) k (bv l) ∧ Below w.heap.size w w' := by
  refine (law_From (f := ⟨d, s, t, c, y, l⟩) hk hk2 hv hB).mono ?_
  rintro e w' ⟨A, p, h1, h2, h3⟩
  exact ⟨A, p, h1, Sl.of_own h2, h3⟩
theorem parse_raw {l : List Nat} {n : Nat} (hl : ∀ x ∈ l, x < 256) {s : Value} {w : World} {B : Nat} (hn : l.length = n) (hv : Sl w B 1 s n (bv l)) (hB : B ≤ w.heap.size) {d sr c y E m : Nat} {t : Bool} {r : List Nat} (hf : parR l = ⟨d, sr, t, c, y, r⟩) (he : errN l = E) (hm : r.length = m) :
    Calls Try.prog 15 #[s] w fun e w' => ∃ A p, e = .returned (.tuple #[.agg #[.int .u64 (d : Int), .int .u64 (sr : Int), .bool t, .int .u16 (c : Int), .int .u16 (y : Int), .slice A m p], .int .i64 (E : Int)]) ∧ Sl w' w'.heap.size 1 (.slice A m p) m (bv r) ∧ Below w.heap.size w w' := by
  subst hn
  refine (frame_Parse hl hv hB).mono ?_
  rintro e w' ⟨lv, h1, h2, h3⟩
  rw [hf] at h1 h2
  have h2' := Sl.of_own h2
  change Sl w' w'.heap.size 1 lv r.length (bv r) at h2'
  rw [hm] at h2'
  obtain ⟨A, p, hlv, _, _⟩ := h2'.form
  subst hlv
  rw [he] at h1
  exact ⟨A, p, h1, h2', h3⟩
theorem rparse_raw {l : List Nat} {n : Nat} (hl : ∀ x ∈ l, x < 256) {s : Value} {w : World} {B : Nat} (hn : l.length = n) (hv : Sl w B 1 s n (bv l)) (hB : B ≤ w.heap.size) {d sr c y E m : Nat} {t : Bool} {r : List Nat} (hf : parR l = ⟨d, sr, t, c, y, r⟩) (he : errN l = E) (hm : r.length = m) :
    Calls Try.prog 16 #[s] w fun e w' => ∃ A p, e = .returned (.tuple #[.agg #[.int .u64 (d : Int), .int .u64 (sr : Int), .bool t, .int .u16 (c : Int), .int .u16 (y : Int), .slice A m p], .int .i64 (E : Int)]) ∧ Sl w' w'.heap.size 1 (.slice A m p) m (bv r) ∧ Below w.heap.size w w' := by
  subst hn
  refine (ref_Parse hl hv hB).mono ?_
  rintro e w' ⟨lv, h1, h2, h3⟩
  rw [hf] at h1 h2
  have h2' := Sl.of_own h2
  change Sl w' w'.heap.size 1 lv r.length (bv r) at h2'
  rw [hm] at h2'
  obtain ⟨A, p, hlv, _, _⟩ := h2'.form
  subst hlv
  rw [he] at h1
  exact ⟨A, p, h1, h2', h3⟩
theorem write_raw {l : List Nat} {n : Nat} (hl : ∀ x ∈ l, x < 256) (hn : l.length = n) (he : errN l = 0) {d sr c y m : Nat} {t : Bool} {r : List Nat} (hf : parR l = ⟨d, sr, t, c, y, r⟩) (hm : r.length = m) (hm2 : m ≤ 1600) {A0 : Option Addr} {p0 : Nat} {w : World} {B : Nat} (hv : Sl w B 1 (.slice A0 m p0) m (bv r)) (hB : B ≤ w.heap.size) :
    Calls Try.prog 21 #[.agg #[.int .u64 (d : Int), .int .u64 (sr : Int), .bool t, .int .u16 (c : Int), .int .u16 (y : Int), .slice A0 m p0]] w fun e w' => ∃ A p, e = .returned (.tuple #[.slice A n p, .int .i64 0]) ∧ Sl w' w'.heap.size 1 (.slice A n p) n (bv l) ∧ Below w.heap.size w w' := by
  have hp : parR l = parF l := by unfold parR; rw [if_pos he]
  have h1 := ofk_small hl (k := 6) (Nat.le_refl _)
  have h2 := ofk_small (mem_drop hl 6) (k := 6) (Nat.le_refl _)
  have hw0 := wErr_par he h1 h2
  have hwb := wBytes_par hl he
  have hd : (parF l).dst = ofk l 6 := rfl
  have hs : (parF l).src = ofk (l.drop 6) 6 := rfl
  have ht : (parF l).tci < 65536 := by
    show (if tagB l then num2 l 14 else 0) < 65536
    split
    · exact num2_lt hl 14
    · omega
  have hy : (parF l).typ < 65536 := num2_lt hl _
  rw [hp] at hf
  rw [hf] at hw0 hwb hd hs ht hy
  have hwr : wR ⟨d, sr, t, c, y, r⟩ = l := by unfold wR; rw [if_pos hw0, hwb]
  refine (frame_Write (f := ⟨d, sr, t, c, y, r⟩) (by rw [hd]; omega) (by rw [hs]; omega) ht hy hm (by omega) hv hB).mono ?_
  rintro e w' ⟨A, p, g1, g2, g3⟩
  rw [hwr, hw0, hn] at g1
  rw [hwr, hn] at g2
  exact ⟨A, p, g1, Sl.of_own g2, g3⟩

set_option maxRecDepth 100000 in
set_option maxHeartbeats 6400000 in
theorem walk (W : World) (a0 : Value) (l0 : List Nat) (b0 : Sl W W.heap.size 1 a0 l0.length (bv l0)) (c0 : ∀ x ∈ l0, x < 256) :
    Calls Try.prog 3 #[a0] W (Says (.bool true) W) := by
  obtain ⟨A, cap, hv, hcap, hmx⟩ := b0.form
  subst hv
  obtain ⟨K, hK⟩ : ∃ K, K = min l0.length 1600 := ⟨_, rfl⟩
  have hK1 : K ≤ l0.length := by omega
  have hK2 : K ≤ 1600 := by omega
  have hif : (if (1600 : Int) < (l0.length : Int) then (1600 : Int) else (l0.length : Int)) = (K : Int) := by split <;> omega
  have hcut := fun u => run_cutTo (P := Try.prog) u stBytes A l0.length cap K (by omega)
  have hs0 := b0.cutTo hK1
  rw [Nat.mul_one, bv_take] at hs0
  have htl : (l0.take K).length = K := by rw [List.length_take]; omega
  have hc : ∀ x ∈ l0.take K, x < 256 := mem_take c0 K
  generalize l0.take K = L at *
  unfold maxLen at hmx
  have S0 := Lib.hid hs0
  have TL := Lib.hid htl
  have HC := Lib.hid hc
  clear b0 c0 hK hs0 htl hc
  obtain ⟨⟨d, sr, t, c, y, r⟩, hf⟩ : ∃ f, parR L = f := ⟨_, rfl⟩
  obtain ⟨E, hE⟩ : ∃ E, errN L = E := ⟨_, rfl⟩
  obtain ⟨m, hm⟩ : ∃ m, r.length = m := ⟨_, rfl⟩
  have hm2 : m ≤ 1600 := by
    have e1 : r = (parR L).load := by rw [hf]
    rw [← hm, e1]
    unfold parR
    split
    · show (L.drop (headN L)).length ≤ 1600; rw [List.length_drop, TL.out]; omega
    · show ([] : List Nat).length ≤ 1600; simp
  have P1 := Lib.hid (fun s w B (h : Sl w B 1 s K (bv L)) hB => parse_raw (s := s) (w := w) (B := B) HC.out TL.out h hB hf hE hm)
  have P2 := Lib.hid (fun s w B (h : Sl w B 1 s K (bv L)) hB => rparse_raw (s := s) (w := w) (B := B) HC.out TL.out h hB hf hE hm)
  have WR := Lib.hid (fun (hE0 : E = 0) A0 p0 w B (h : Sl w B 1 (.slice A0 m p0) m (bv r)) hB => write_raw (A0 := A0) (p0 := p0) (w := w) (B := B) HC.out TL.out (hE.trans hE0) hf hm hm2 h hB)
  have FR := Lib.hid (fun lv w B (h : Sl w B 1 lv m (bv r)) hB => from_raw d sr c y t r (lv := lv) (w := w) (B := B) hm (by omega) h hB)
  have SM := Lib.hid (fun v1 v2 w B B' (h1 : Sl w B 1 v1 m (bv r)) (h2 : Sl w B' 1 v2 m (bv r)) hB hB' => law_same d sr c y t false r 0 (v1 := v1) (v2 := v2) (w := w) (B := B) (B' := B') (by rw [hm]; exact h1) (by rw [hm]; simpa using h2) (Or.inl rfl) hB hB')
  have hy : ∀ l : List Nat, sameB l l = true := fun l => sameB_yes rfl
  have HY := Lib.hid hy
  have hEE : ((E : Int) != (E : Int)) = false := by simp
  clear hf hE hm hy
  have hsa : ∀ u v w B B', Sl w B 1 u K (bv L) → Sl w B' 1 v K (bv L) → Calls Try.prog 20 #[u, v] w (Quiet (.bool true) w) := by
    intro u v w B B' h1 h2
    have := ref_Same (l := L) (m := L) (u := u) (v := v) (by rw [TL.out]; exact h1) (by rw [TL.out]; exact h2)
    rw [HY.out] at this
    exact this
  have SA := Lib.hid hsa
  clear hsa
  go_enter Try.func3, Try.ntmps3
  go_wp2_with (first
    | (at_builtin; refine wpList_app _ rfl stBytes (.tmp 15) (.tmp 16) rfl W.heap.size _ 0 [] rfl (World.ownsRow_lit W #[] 0 (Nat.le_refl _) (by decide) rfl) W.heap.size _ K (bv L) rfl (S0.out.alloc (Nat.le_refl _) _) (bv_one _) (by omega) (by simp) ?_; intro v1 w1 hown1 hg1 hat1 hbel1))
  rw [List.nil_append, Nat.zero_add] at hown1
  have B1 := Lib.hid (((Below.refl W.heap.size W).alloc (Nat.le_refl _) (.cells #[] 5)).trans hbel1)
  have O1 := Lib.hid (Sl.of_own hown1)
  clear hown1 hg1 hat1 hbel1 hcut
  refine (P1.out _ _ _ O1.out (Nat.le_refl _)).mono ?_
  rintro e w2 ⟨A2, p2, rfl, hs, hb⟩
  have S2 := Lib.hid hs
  have B2 := Lib.hid (B1.out.trans (hb.mono B1.out.size))
  have O2 := Lib.hid ((O1.out.below hb).mono hb.size)
  clear hs hb O1
  obtain ⟨w3, hw3⟩ : ∃ w3, w3 = w2.alloc (.cells #[.int .u64 (d : Int), .int .u64 (sr : Int), .bool t, .int .u16 (c : Int), .int .u16 (y : Int), .slice A2 m p2] 27) := ⟨_, rfl⟩
  obtain ⟨g1, hg1⟩ : ∃ g1, g1 = w2.heap.size := ⟨_, rfl⟩
  have B3 : Hid (Below W.heap.size W w3) := by rw [hw3]; exact B2.out.alloc B2.out.size _
  have hb3 : Below w2.heap.size w2 w3 := by rw [hw3]; exact (Below.refl _ _).alloc (Nat.le_refl _) _
  have C3 : Hid (w3.cell? ⟨g1, 0, none⟩ = some (.int .u64 (d : Int)) ∧ w3.cell? ⟨g1, 1, none⟩ = some (.int .u64 (sr : Int)) ∧ w3.cell? ⟨g1, 2, none⟩ = some (.bool t) ∧ w3.cell? ⟨g1, 3, none⟩ = some (.int .u16 (c : Int)) ∧ w3.cell? ⟨g1, 4, none⟩ = some (.int .u16 (y : Int)) ∧ w3.cell? ⟨g1, 5, none⟩ = some (.slice A2 m p2) ∧ g1 < w3.heap.size) := by
    rw [hw3, hg1]; exact ⟨by simp [go_sem], by simp [go_sem], by simp [go_sem], by simp [go_sem], by simp [go_sem], by simp [go_sem], by simp⟩
  have S3 := Lib.hid ((S2.out.below hb3).mono hb3.size)
  have O3 := Lib.hid ((O2.out.below hb3).mono hb3.size)
  clear hb3 S2 O2 B1 B2
  go_wp2_with fail
  rw [← hw3]
  clear hw3
  rw [← hg1]
  clear hg1
  refine (P2.out _ _ _ (S0.out.below B3.out) B3.out.size).mono ?_
  rintro e w4 ⟨A4, p4, rfl, hs, hb⟩
  have S4 := Lib.hid hs
  have B4 := Lib.hid (B3.out.trans (hb.mono B3.out.size))
  have S34 := Lib.hid ((S3.out.below hb).mono hb.size)
  have O4 := Lib.hid ((O3.out.below hb).mono hb.size)
  have C4 : Hid (w4.cell? ⟨g1, 0, none⟩ = some (.int .u64 (d : Int)) ∧ w4.cell? ⟨g1, 1, none⟩ = some (.int .u64 (sr : Int)) ∧ w4.cell? ⟨g1, 2, none⟩ = some (.bool t) ∧ w4.cell? ⟨g1, 3, none⟩ = some (.int .u16 (c : Int)) ∧ w4.cell? ⟨g1, 4, none⟩ = some (.int .u16 (y : Int)) ∧ w4.cell? ⟨g1, 5, none⟩ = some (.slice A2 m p2) ∧ g1 < w4.heap.size) := by
    obtain ⟨q0, q1, q2, q3, q4, q5, q6⟩ := C3.out
    exact ⟨(hb.cell (p := ⟨g1, 0, none⟩) q6).trans q0, (hb.cell (p := ⟨g1, 1, none⟩) q6).trans q1, (hb.cell (p := ⟨g1, 2, none⟩) q6).trans q2, (hb.cell (p := ⟨g1, 3, none⟩) q6).trans q3, (hb.cell (p := ⟨g1, 4, none⟩) q6).trans q4, (hb.cell (p := ⟨g1, 5, none⟩) q6).trans q5, Nat.lt_of_lt_of_le q6 hb.size⟩
  clear hs hb S3 O3 B3 C3
  obtain ⟨w5, hw5⟩ : ∃ w5, w5 = w4.alloc (.cells #[.int .u64 (d : Int), .int .u64 (sr : Int), .bool t, .int .u16 (c : Int), .int .u16 (y : Int), .slice A4 m p4] 32) := ⟨_, rfl⟩
  obtain ⟨g2, hg2⟩ : ∃ g2, g2 = w4.heap.size := ⟨_, rfl⟩
  have B5 : Hid (Below W.heap.size W w5) := by rw [hw5]; exact B4.out.alloc B4.out.size _
  have hb5 : Below w4.heap.size w4 w5 := by rw [hw5]; exact (Below.refl _ _).alloc (Nat.le_refl _) _
  have hS : (w5.cell? ⟨g1, 0, none⟩ = some (.int .u64 (d : Int)) ∧ w5.cell? ⟨g1, 1, none⟩ = some (.int .u64 (sr : Int)) ∧ w5.cell? ⟨g1, 2, none⟩ = some (.bool t) ∧ w5.cell? ⟨g1, 3, none⟩ = some (.int .u16 (c : Int)) ∧ w5.cell? ⟨g1, 4, none⟩ = some (.int .u16 (y : Int)) ∧ w5.cell? ⟨g1, 5, none⟩ = some (.slice A2 m p2) ∧ w5.cell? ⟨g2, 0, none⟩ = some (.int .u64 (d : Int)) ∧ w5.cell? ⟨g2, 1, none⟩ = some (.int .u64 (sr : Int)) ∧ w5.cell? ⟨g2, 2, none⟩ = some (.bool t) ∧ w5.cell? ⟨g2, 3, none⟩ = some (.int .u16 (c : Int)) ∧ w5.cell? ⟨g2, 4, none⟩ = some (.int .u16 (y : Int)) ∧ w5.cell? ⟨g2, 5, none⟩ = some (.slice A4 m p4)) ∧ g1 < w5.heap.size ∧ g2 < w5.heap.size := by
    obtain ⟨q0, q1, q2, q3, q4, q5, q6⟩ := C4.out
    refine ⟨⟨(hb5.cell (p := ⟨g1, 0, none⟩) q6).trans q0, (hb5.cell (p := ⟨g1, 1, none⟩) q6).trans q1, (hb5.cell (p := ⟨g1, 2, none⟩) q6).trans q2, (hb5.cell (p := ⟨g1, 3, none⟩) q6).trans q3, (hb5.cell (p := ⟨g1, 4, none⟩) q6).trans q4, (hb5.cell (p := ⟨g1, 5, none⟩) q6).trans q5, ?_⟩, ?_, ?_⟩
    · rw [hw5, hg2]; exact ⟨by simp [go_sem], by simp [go_sem], by simp [go_sem], by simp [go_sem], by simp [go_sem], by simp [go_sem]⟩
    · exact Nat.lt_of_lt_of_le q6 hb5.size
    · rw [hw5, hg2]; simp
  have S5 := Lib.hid ((S34.out.below hb5).mono hb5.size)
  have T5 := Lib.hid ((S4.out.below hb5).mono hb5.size)
  have O5 := Lib.hid ((O4.out.below hb5).mono hb5.size)
  obtain ⟨hS0, hgz1, hgz2⟩ := hS
  have HS0 := Lib.hid hS0
  have bw5 := B5.out
  have zw5 := bw5.size
  clear hb5 S4 S34 O4 B4 C4 hS0
  go_wp2_with fail
  rw [← hw5]
  clear hw5
  rw [← hg2]
  clear hg2
  go_region_held3 (fun w' => w'.cell? ⟨g1, 0, none⟩ = some (.int .u64 (d : Int)) ∧ w'.cell? ⟨g1, 1, none⟩ = some (.int .u64 (sr : Int)) ∧ w'.cell? ⟨g1, 2, none⟩ = some (.bool t) ∧ w'.cell? ⟨g1, 3, none⟩ = some (.int .u16 (c : Int)) ∧ w'.cell? ⟨g1, 4, none⟩ = some (.int .u16 (y : Int)) ∧ w'.cell? ⟨g1, 5, none⟩ = some (.slice A2 m p2) ∧ w'.cell? ⟨g2, 0, none⟩ = some (.int .u64 (d : Int)) ∧ w'.cell? ⟨g2, 1, none⟩ = some (.int .u64 (sr : Int)) ∧ w'.cell? ⟨g2, 2, none⟩ = some (.bool t) ∧ w'.cell? ⟨g2, 3, none⟩ = some (.int .u16 (c : Int)) ∧ w'.cell? ⟨g2, 4, none⟩ = some (.int .u16 (y : Int)) ∧ w'.cell? ⟨g2, 5, none⟩ = some (.slice A4 m p4))
    (first | (with_reducible assumption) | (with_reducible exact keep12 (by assumption) (fun p hp => hb.cell (by rcases hp with h | h <;> rw [h] <;> go_size))) | (exact HS0.out))
    (first
      | (go_at_call 17; (with_reducible refine Calls.mono (told02 _) ?_); rintro e w6 ⟨rfl, hb⟩; have hB6 : Below W.heap.size W w6 := Below.trans (by (repeat' (first | (with_reducible exact Below.refl _ _) | (with_reducible assumption) | (with_reducible refine Below.setCell ?_ ?_ _) | (with_reducible refine Below.alloc ?_ ?_ _) | (with_reducible refine below_drewN ?_ _) | (with_reducible refine Below.drew ?_) | go_size))) (hb.mono (by go_size)); have hC6 : Below w5.heap.size w5 w6 := Below.trans (by (repeat' (first | (with_reducible exact Below.refl _ _) | (with_reducible assumption) | (with_reducible refine Below.setCell ?_ ?_ _) | (with_reducible refine Below.alloc ?_ ?_ _) | (with_reducible refine below_drewN ?_ _) | (with_reducible refine Below.drew ?_) | go_size))) (hb.mono (by go_size)); have hz6 := hC6.size)
      | (go_at_call 19; (with_reducible refine Calls.mono (FR.out _ _ _ (S5.out.below (by (repeat' (first | (with_reducible exact Below.refl _ _) | (with_reducible assumption) | (with_reducible refine Below.setCell ?_ ?_ _) | (with_reducible refine Below.alloc ?_ ?_ _) | (with_reducible refine below_drewN ?_ _) | (with_reducible refine Below.drew ?_) | go_size)))) (by go_size)) ?_); rintro e w7 ⟨A7, p7, rfl, hs7, hb⟩; have hB7 : Below W.heap.size W w7 := Below.trans (by (repeat' (first | (with_reducible exact Below.refl _ _) | (with_reducible assumption) | (with_reducible refine Below.setCell ?_ ?_ _) | (with_reducible refine Below.alloc ?_ ?_ _) | (with_reducible refine below_drewN ?_ _) | (with_reducible refine Below.drew ?_) | go_size))) (hb.mono (by go_size)); have hC7 : Below w5.heap.size w5 w7 := Below.trans (by (repeat' (first | (with_reducible exact Below.refl _ _) | (with_reducible assumption) | (with_reducible refine Below.setCell ?_ ?_ _) | (with_reducible refine Below.alloc ?_ ?_ _) | (with_reducible refine below_drewN ?_ _) | (with_reducible refine Below.drew ?_) | go_size))) (hb.mono (by go_size)); have hz7 := hC7.size)
      | (go_at_call 18; (with_reducible refine Calls.mono (SM.out _ _ _ _ _ (T5.out.below (by (repeat' (first | (with_reducible exact Below.refl _ _) | (with_reducible assumption) | (with_reducible refine Below.setCell ?_ ?_ _) | (with_reducible refine Below.alloc ?_ ?_ _) | (with_reducible refine below_drewN ?_ _) | (with_reducible refine Below.drew ?_) | go_size)))) (hs7.below (by (repeat' (first | (with_reducible exact Below.refl _ _) | (with_reducible assumption) | (with_reducible refine Below.setCell ?_ ?_ _) | (with_reducible refine Below.alloc ?_ ?_ _) | (with_reducible refine below_drewN ?_ _) | (with_reducible refine Below.drew ?_) | go_size)))) (by go_size) (by go_size)) ?_); rintro e w8 ⟨rfl, hb⟩; have hB8 : Below W.heap.size W w8 := Below.trans (by (repeat' (first | (with_reducible exact Below.refl _ _) | (with_reducible assumption) | (with_reducible refine Below.setCell ?_ ?_ _) | (with_reducible refine Below.alloc ?_ ?_ _) | (with_reducible refine below_drewN ?_ _) | (with_reducible refine Below.drew ?_) | go_size))) (hb.mono (by go_size)); have hC8 : Below w5.heap.size w5 w8 := Below.trans (by (repeat' (first | (with_reducible exact Below.refl _ _) | (with_reducible assumption) | (with_reducible refine Below.setCell ?_ ?_ _) | (with_reducible refine Below.alloc ?_ ?_ _) | (with_reducible refine below_drewN ?_ _) | (with_reducible refine Below.drew ?_) | go_size))) (hb.mono (by go_size)); have hz8 := hC8.size)
      | (go_at_call 20; (with_reducible refine Calls.mono (SA.out _ _ _ _ _ (O5.out.below (by (repeat' (first | (with_reducible exact Below.refl _ _) | (with_reducible assumption) | (with_reducible refine Below.setCell ?_ ?_ _) | (with_reducible refine Below.alloc ?_ ?_ _) | (with_reducible refine below_drewN ?_ _) | (with_reducible refine Below.drew ?_) | go_size)))) (S0.out.below (by (repeat' (first | (with_reducible exact Below.refl _ _) | (with_reducible assumption) | (with_reducible refine Below.setCell ?_ ?_ _) | (with_reducible refine Below.alloc ?_ ?_ _) | (with_reducible refine below_drewN ?_ _) | (with_reducible refine Below.drew ?_) | go_size))))) ?_); rintro e w9 ⟨rfl, n9, rfl⟩; have hB9 : Below W.heap.size W (w8.drewN n9) := below_drewN hB8 n9; have hC9 : Below w5.heap.size w5 (w8.drewN n9) := below_drewN hC8 n9; have hb : Below w8.heap.size w8 (w8.drewN n9) := below_drewN (Below.refl _ _) n9))
  all_goals
    have hS9 : Sl (w8.drewN n9) (w8.drewN n9).heap.size 1 (.slice A2 m p2) m (bv r) := (S5.out.below hC9).mono hC9.size
    obtain ⟨q0, q1, q2, q3, q4, q5, _⟩ := HS0.out
    have x0 := (hC9.cell (p := ⟨g1, 0, none⟩) hgz1).trans q0
    have x1 := (hC9.cell (p := ⟨g1, 1, none⟩) hgz1).trans q1
    have x2 := (hC9.cell (p := ⟨g1, 2, none⟩) hgz1).trans q2
    have x3 := (hC9.cell (p := ⟨g1, 3, none⟩) hgz1).trans q3
    have x4 := (hC9.cell (p := ⟨g1, 4, none⟩) hgz1).trans q4
    have x5 := (hC9.cell (p := ⟨g1, 5, none⟩) hgz1).trans q5
    have xg : g1 < (w8.drewN n9).heap.size := Nat.lt_of_lt_of_le hgz1 hC9.size
    obtain ⟨w10, hw10⟩ : ∃ w10, w10 = w8.drewN n9 := ⟨_, rfl⟩
    rw [← hw10] at hS9 x0 x1 x2 x3 x4 x5 xg hB9 ⊢
    have S10 := Lib.hid hS9
    have B10 := Lib.hid hB9
    clear hw10 hB9 hC9 hS9 q0 q1 q2 q3 q4 q5 HS0 hB8 hC8 hB7 hC7 hB6 hC6 bw5 zw5 hz6 hz7 hz8 hs7 S5 T5 O5 B5 hEE hgz1 hgz2 FR SM P1 P2 HY
    by_cases hE0 : E = 0
    · have hWR := Lib.hid (WR.out hE0)
      subst hE0
      have hne : (((0 : Nat) : Int) != 0) = false := by simp
      clear WR
      go_wp2_with fail
      refine (hWR.out _ _ _ _ S10.out (Nat.le_refl _)).mono ?_
      rintro e w11 ⟨A11, p11, rfl, hs, hb⟩
      have S11 := Lib.hid hs
      have B11 := Lib.hid (B10.out.trans (hb.mono B10.out.size))
      have y2 := (hb.cell (p := ⟨g1, 2, none⟩) xg).trans x2
      clear hs hb hWR x0 x1 x2 x3 x4 x5 xg hne
      cases t
      · go_wp2_with fail
        refine (SA.out _ _ _ _ _ S11.out (S0.out.below B11.out)).mono ?_
        rintro e w12 ⟨rfl, n12, rfl⟩
        go_wp2
        go_ret
        exact ⟨by simp, below_drewN B11.out _⟩
      · go_wp2_with fail
        refine (SA.out _ _ _ _ _ S11.out (S0.out.below B11.out)).mono ?_
        rintro e w12 ⟨rfl, n12, rfl⟩
        go_wp2
        go_ret
        exact ⟨by simp, below_drewN B11.out _⟩
    · have hne : ((E : Int) != 0) = true := by simp; omega
      clear x0 x1 x2 x3 x4 x5 xg
      go_wp2
      go_ret
      exact ⟨by simp, B10.out⟩

set_option maxRecDepth 100000 in
/-- What the walk gives, for every argument: the row's own words. -/
theorem contract (H : Type) (enc : TypeId × Value → H) (W : World) (base : Nat) (args : Array Value) (ds gs : List (DataW H)) (before : List MemPlace)
    (hval : ∀ (j : Nat) t v, Try.f3.params[j]? = some t → args[j]? = some v → Value.okWide Try.prog W .any base t v)
    (hW : DataW.Whole enc Try.prog Try.f3.params.toList Rows.frameParsesSpec.vars false W args.toList ds gs before) :
    Calls Try.prog 3 args W fun e W' => ∃ v, e = .returned v ∧ Rows.frameParsesSpec.post enc Try.prog Try.f3 false true false false W args v W' := by
  have hW' := hW
  obtain ⟨p, q, hA0, hV, rfl, hfz, hnd⟩ := hW
  have hA : DataW.TrodAll enc Try.prog W 0 (fun _ => true) true Try.f3.params.toList args.toList ds p := hA0
  rw [Try.params3] at hA hval
  obtain ⟨v0, vs0, d0, ds0, p0, q0, hargs, rfl, rfl, h0, r0⟩ := trodAll_cons hA
  obtain ⟨rfl, rfl, rfl⟩ := trodAll_nil r0
  obtain rfl : args = #[v0] := by cases args; simp_all
  obtain ⟨l0, b0, c0⟩ := open_bytes Try.underlying22 Try.underlying5 (by kernel_rfl) (hval 0 22 v0 rfl rfl) h0
  refine (walk W v0 l0 b0 c0).mono fun e W' ⟨he, hb⟩ => ?_
  subst he
  exact close_true (by kernel_rfl) Try.underlying4 (by kernel_rfl) (by kernel_rfl) rfl rfl hW' hb

set_option maxRecDepth 100000 in
theorem lifted (os : Os) (started : os.Started) (H : Type) (enc : TypeId × Value → H) :
    ReturnsInHanded {} Try.checked os 3 .any (Rows.frameParsesSpec.pre6 enc Try.prog Try.f3 Rows.frameParsesRow.domain false) (Rows.frameParsesSpec.post enc Try.prog Try.f3 false true false false) := by
  refine returnsInHanded_of_change (C := Try.checked) own started (by kernel_rfl) Try.func3
    (ChangeSpec.witness6 (enc := enc) (C := Try.checked) false ⟨#[], #[.slice none 0 0], []⟩ 8 (by kernel_rfl) (by kernel_rfl) (by kernel_rfl) (by kernel_rfl)) ?_
  intro W base args ds gs before hval hW _ _
  exact contract H enc W base args ds gs before hval hW

theorem proved : Rows.FrameParsesSaid :=
  OpenClaim.holds_of_wide 3 Try.f3 rfl rfl rfl rfl rfl rfl rfl ⟨rfl, rfl, rfl, rfl, rfl⟩ rfl rfl rfl rfl rfl (by kernel_rfl) Try.func3 (by kernel_rfl)
    (of_decide_eq_true (by kernel_rfl)) (by unfold Func.isWrapper; first | (rw [if_pos (by decide +kernel)]; kernel_rfl) | (rw [if_neg (by decide +kernel)]; exact ⟨rfl, rfl⟩))
    (fun os started H enc _ => lifted os started H enc)
#print axioms proved
end Go.Proofs.Ythamjkccljhhcaa.frameParses
