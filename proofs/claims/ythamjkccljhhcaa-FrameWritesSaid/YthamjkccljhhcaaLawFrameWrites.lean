/-
  Of all frames the program tells the bytes, or the error, as the document does; they are parsed again, but for noughts behind. No condition.
-/
import Derived.Test.YthamjkccljhhcaaRows
import Derived.Test.YthamjkccljhhcaaFrameT
import Derived.Test.YthamjkccljhhcaaFrameK
import Derived.Deep.RegionHeld3
import Derived.Test.YthamjkccljhhcaaFrameS
import Derived.Test.YthamjkccljhhcaaFrameW
import Derived.Test.YthamjkccljhhcaaFrameQ
import Derived.Test.YthamjkccljhhcaaPlainRd
import Derived.Test.YthamjkccljhhcaaOpenFr
import Derived.SizedLaws
import Derived.IntWalk
import Derived.WalkKit
import Derived.ProofKit
import Derived.OpenShut
namespace Go.Proofs.Ythamjkccljhhcaa.frameWrites
open Go.ChangeShapes Go.WideShapes Go.ChangeAt Go.RowKit
open Go.ChangeMaps (open_string)
set_option linter.unusedVariables false

theorem own : ownKnob Try.prog.godebug = none := by kernel_rfl
theorem keep12 {w w' : World} {b b' : Nat} {v0 v1 v2 v3 v4 v5 u0 u1 u2 u3 u4 u5 : Value} (h : w.cell? ⟨b, 0, none⟩ = some v0 ∧ w.cell? ⟨b, 1, none⟩ = some v1 ∧ w.cell? ⟨b, 2, none⟩ = some v2 ∧ w.cell? ⟨b, 3, none⟩ = some v3 ∧ w.cell? ⟨b, 4, none⟩ = some v4 ∧ w.cell? ⟨b, 5, none⟩ = some v5 ∧ w.cell? ⟨b', 0, none⟩ = some u0 ∧ w.cell? ⟨b', 1, none⟩ = some u1 ∧ w.cell? ⟨b', 2, none⟩ = some u2 ∧ w.cell? ⟨b', 3, none⟩ = some u3 ∧ w.cell? ⟨b', 4, none⟩ = some u4 ∧ w.cell? ⟨b', 5, none⟩ = some u5) (hk : ∀ p : Addr, p.block = b ∨ p.block = b' → w'.cell? p = w.cell? p) :
    w'.cell? ⟨b, 0, none⟩ = some v0 ∧ w'.cell? ⟨b, 1, none⟩ = some v1 ∧ w'.cell? ⟨b, 2, none⟩ = some v2 ∧ w'.cell? ⟨b, 3, none⟩ = some v3 ∧ w'.cell? ⟨b, 4, none⟩ = some v4 ∧ w'.cell? ⟨b, 5, none⟩ = some v5 ∧ w'.cell? ⟨b', 0, none⟩ = some u0 ∧ w'.cell? ⟨b', 1, none⟩ = some u1 ∧ w'.cell? ⟨b', 2, none⟩ = some u2 ∧ w'.cell? ⟨b', 3, none⟩ = some u3 ∧ w'.cell? ⟨b', 4, none⟩ = some u4 ∧ w'.cell? ⟨b', 5, none⟩ = some u5 :=
  ⟨(hk _ (Or.inl rfl)).trans h.1, (hk _ (Or.inl rfl)).trans h.2.1, (hk _ (Or.inl rfl)).trans h.2.2.1, (hk _ (Or.inl rfl)).trans h.2.2.2.1, (hk _ (Or.inl rfl)).trans h.2.2.2.2.1, (hk _ (Or.inl rfl)).trans h.2.2.2.2.2.1, (hk _ (Or.inr rfl)).trans h.2.2.2.2.2.2.1, (hk _ (Or.inr rfl)).trans h.2.2.2.2.2.2.2.1, (hk _ (Or.inr rfl)).trans h.2.2.2.2.2.2.2.2.1, (hk _ (Or.inr rfl)).trans h.2.2.2.2.2.2.2.2.2.1, (hk _ (Or.inr rfl)).trans h.2.2.2.2.2.2.2.2.2.2.1, (hk _ (Or.inr rfl)).trans h.2.2.2.2.2.2.2.2.2.2.2⟩
theorem from_raw (d s c y : Nat) (t : Bool) (l : List Nat) {k : Nat} (hk : l.length = k) (hk2 : k ≤ 140737488351232) {lv : Value} {w : World} {B : Nat} (hv : Sl w B 1 lv k (bv l)) (hB : B ≤ w.heap.size) :
    Calls Try.prog 19 #[.agg #[.int .u64 (d : Int), .int .u64 (s : Int), .bool t, .int .u16 (c : Int), .int .u16 (y : Int), lv]] w fun e w' => ∃ A p, e = .returned (.agg #[.int .u64 (d : Int), .int .u64 (s : Int), .bool t, .int .u16 (c : Int), .int .u16 (y : Int), .slice A k p]) ∧ Sl w' w'.heap.size 1 (.slice A k p) k (bv l) ∧ Below w.heap.size w w' := by
  refine (law_From (f := ⟨d, s, t, c, y, l⟩) hk hk2 hv hB).mono ?_
  rintro e w' ⟨A, p, h1, h2, h3⟩
  exact ⟨A, p, h1, Sl.of_own h2, h3⟩
theorem to_raw (d s c y : Nat) (t : Bool) (l : List Nat) {k : Nat} (hk : l.length = k) (hk2 : k ≤ 140737488351232) {lv : Value} {w : World} {B : Nat} (hv : Sl w B 1 lv k (bv l)) (hB : B ≤ w.heap.size) :
    Calls Try.prog 22 #[.agg #[.int .u64 (d : Int), .int .u64 (s : Int), .bool t, .int .u16 (c : Int), .int .u16 (y : Int), lv]] w fun e w' => ∃ A p, e = .returned (.agg #[.int .u64 (d : Int), .int .u64 (s : Int), .bool t, .int .u16 (c : Int), .int .u16 (y : Int), .slice A k p]) ∧ Sl w' w'.heap.size 1 (.slice A k p) k (bv l) ∧ Below w.heap.size w w' := by
  refine (law_To (f := ⟨d, s, t, c, y, l⟩) hk hk2 hv hB).mono ?_
  rintro e w' ⟨A, p, h1, h2, h3⟩
  exact ⟨A, p, h1, Sl.of_own h2, h3⟩
theorem writeF_raw {d s c y m n E : Nat} {t : Bool} {l R : List Nat} (hd : d < 18446744073709551616) (hs : s < 18446744073709551616) (hc : c < 65536) (hy : y < 65536) (hm : l.length = m) (hm2 : m ≤ 1600) (hR : wR ⟨d, s, t, c, y, l⟩ = R) (hE : wErr ⟨d, s, t, c, y, l⟩ = E) (hn : R.length = n) {A0 : Option Addr} {p0 : Nat} {w : World} {B : Nat} (hv : Sl w B 1 (.slice A0 m p0) m (bv l)) (hB : B ≤ w.heap.size) :
    Calls Try.prog 21 #[.agg #[.int .u64 (d : Int), .int .u64 (s : Int), .bool t, .int .u16 (c : Int), .int .u16 (y : Int), .slice A0 m p0]] w fun e w' => ∃ A p, e = .returned (.tuple #[.slice A n p, .int .i64 (E : Int)]) ∧ Sl w' w'.heap.size 1 (.slice A n p) n (bv R) ∧ Below w.heap.size w w' := by
  refine (frame_Write (f := ⟨d, s, t, c, y, l⟩) hd hs hc hy hm (by omega) hv hB).mono ?_
  rintro e w' ⟨A, p, g1, g2, g3⟩
  rw [hR, hE, hn] at g1
  rw [hR, hn] at g2
  exact ⟨A, p, g1, Sl.of_own g2, g3⟩
theorem writeR_raw {d s c y m n E : Nat} {t : Bool} {l R : List Nat} (hd : d < 18446744073709551616) (hs : s < 18446744073709551616) (hc : c < 65536) (hy : y < 65536) (hm : l.length = m) (hm2 : m ≤ 1600) (hR : wR ⟨d, s, t, c, y, l⟩ = R) (hE : wErr ⟨d, s, t, c, y, l⟩ = E) (hn : R.length = n) {A0 : Option Addr} {p0 : Nat} {w : World} {B : Nat} (hv : Sl w B 1 (.slice A0 m p0) m (bv l)) (hB : B ≤ w.heap.size) :
    Calls Try.prog 23 #[.agg #[.int .u64 (d : Int), .int .u64 (s : Int), .bool t, .int .u16 (c : Int), .int .u16 (y : Int), .slice A0 m p0]] w fun e w' => ∃ A p, e = .returned (.tuple #[.slice A n p, .int .i64 (E : Int)]) ∧ Sl w' w'.heap.size 1 (.slice A n p) n (bv R) ∧ Below w.heap.size w w' := by
  refine (ref_Write (f := ⟨d, s, t, c, y, l⟩) hd hs hc hy hm (by omega) hv hB).mono ?_
  rintro e w' ⟨A, p, g1, g2, g3⟩
  rw [hR, hE, hn] at g1
  rw [hR, hn] at g2
  exact ⟨A, p, g1, Sl.of_own g2, g3⟩
theorem parseB_raw {d s c y m n M : Nat} {t : Bool} {l R : List Nat} (hc : c < 65536) (hy : y < 65536) (hl : ∀ x ∈ l, x < 256) (hm : l.length = m) (hR : wR ⟨d, s, t, c, y, l⟩ = R) (hE : wErr ⟨d, s, t, c, y, l⟩ = 0) (hn : R.length = n) (hM : padM ⟨d, s, t, c, y, l⟩ = M) {v : Value} {w : World} {B : Nat} (hv : Sl w B 1 v n (bv R)) (hB : B ≤ w.heap.size) :
    Calls Try.prog 15 #[v] w fun e w' => ∃ A p, e = .returned (.tuple #[.agg #[.int .u64 (d : Int), .int .u64 (s : Int), .bool t, .int .u16 (c : Int), .int .u16 (y : Int), .slice A (m + M) p], .int .i64 0]) ∧ Sl w' w'.heap.size 1 (.slice A (m + M) p) (m + M) (bv (l ++ List.replicate M 0)) ∧ Below w.heap.size w w' := by
  have hR' : R = wBytes ⟨d, s, t, c, y, l⟩ := by rw [← hR]; unfold wR; rw [if_pos hE]
  obtain ⟨h1, h2⟩ := read_back hE hc hy
  have h3 := wBytes_lt (f := ⟨d, s, t, c, y, l⟩) hc hy hl
  rw [← hR'] at h1 h2 h3
  rw [hM] at h2
  subst hn
  refine (frame_Parse h3 hv hB).mono ?_
  rintro e w' ⟨lv, g1, g2, g3⟩
  have hp : parR R = ⟨d, s, t, c, y, l ++ List.replicate M 0⟩ := by unfold parR; rw [if_pos h1]; exact h2
  rw [hp, h1] at g1
  rw [hp] at g2
  have g2' := Sl.of_own g2
  change Sl w' w'.heap.size 1 lv (l ++ List.replicate M 0).length (bv (l ++ List.replicate M 0)) at g2'
  have hlen : (l ++ List.replicate M 0).length = m + M := by simp [hm]
  rw [hlen] at g2'
  obtain ⟨A, p, hlv, _, _⟩ := g2'.form
  subst hlv
  change e = .returned (.tuple #[.agg #[.int .u64 (d : Int), .int .u64 (s : Int), .bool t, .int .u16 (c : Int), .int .u16 (y : Int), .slice A (m + M) p], .int .i64 0]) at g1
  exact ⟨A, p, g1, g2', g3⟩

set_option maxRecDepth 100000 in
set_option maxHeartbeats 6400000 in
theorem walk (W : World) (a0 : Fr) (A0 : Option Addr) (k0 c0 : Nat) (bd0 : a0.dst < 18446744073709551616) (bs0 : a0.src < 18446744073709551616) (bc0 : a0.tci < 65536) (by_0 : a0.typ < 65536) (bl0 : a0.load.length = k0) (bk0 : k0 ≤ 140737488351232) (b0 : Sl W W.heap.size 1 (.slice A0 k0 c0) k0 (bv a0.load)) (l0 : ∀ x ∈ a0.load, x < 256) :
    Calls Try.prog 4 #[frV a0 (.slice A0 k0 c0)] W (Says (.bool true) W) := by
  obtain ⟨d, s, t, c, y, l⟩ := a0
  simp only at bd0 bs0 bc0 by_0 bl0 b0 l0
  unfold frV
  simp only
  obtain ⟨K, hK⟩ : ∃ K, K = min k0 1600 := ⟨_, rfl⟩
  have hK1 : K ≤ k0 := by omega
  have hK2 : K ≤ 1600 := by omega
  have hif : (if (1600 : Int) < (k0 : Int) then (1600 : Int) else (k0 : Int)) = (K : Int) := by split <;> omega
  obtain ⟨A9, c9, hvv, hcap, hmx⟩ := b0.form
  injection hvv with ea _ ec
  subst ea ec
  have hcut := fun u => run_cutTo (P := Try.prog) u stBytes A0 k0 c0 K (by omega)
  have hs0 := b0.cutTo hK1
  rw [Nat.mul_one, bv_take] at hs0
  have htl : (l.take K).length = K := by rw [List.length_take]; omega
  have hlc : ∀ x ∈ l.take K, x < 256 := mem_take l0 K
  generalize l.take K = L at *
  unfold maxLen at hmx
  obtain ⟨R, hR⟩ : ∃ R, wR ⟨d, s, t, c, y, L⟩ = R := ⟨_, rfl⟩
  obtain ⟨E, hE⟩ : ∃ E, wErr ⟨d, s, t, c, y, L⟩ = E := ⟨_, rfl⟩
  obtain ⟨n, hn⟩ : ∃ n, R.length = n := ⟨_, rfl⟩
  obtain ⟨M, hM⟩ : ∃ M, padM ⟨d, s, t, c, y, L⟩ = M := ⟨_, rfl⟩
  have hM2 : M ≤ 60 := by rw [← hM]; unfold padM; omega
  have hn0 : E ≠ 0 → n = 0 := fun h => by rw [← hn, ← hR]; unfold wR; rw [if_neg (by rw [hE]; exact h)]; rfl
  have S0 := Lib.hid hs0
  have TOC := Lib.hid (fun lv w B (h : Sl w B 1 lv K (bv L)) hB => to_raw d s c y t L (lv := lv) (w := w) (B := B) htl (by omega) h hB)
  have WF := Lib.hid (fun A0 p0 w B (h : Sl w B 1 (.slice A0 K p0) K (bv L)) hB => writeF_raw (A0 := A0) (p0 := p0) (w := w) (B := B) bd0 bs0 bc0 by_0 htl hK2 hR hE hn h hB)
  have WQ := Lib.hid (fun A0 p0 w B (h : Sl w B 1 (.slice A0 K p0) K (bv L)) hB => writeR_raw (A0 := A0) (p0 := p0) (w := w) (B := B) bd0 bs0 bc0 by_0 htl hK2 hR hE hn h hB)
  have PB := Lib.hid (fun (hE0 : E = 0) v w B (h : Sl w B 1 v n (bv R)) hB => parseB_raw (v := v) (w := w) (B := B) bc0 by_0 hlc htl hR (hE.trans hE0) hn hM h hB)
  have FR := Lib.hid (fun lv w B (h : Sl w B 1 lv (K + M) (bv (L ++ List.replicate M 0))) hB => from_raw d s c y t (L ++ List.replicate M 0) (lv := lv) (w := w) (B := B) (by simp [htl]) (by omega) h hB)
  have SM := Lib.hid (fun v1 v2 w B B' (h1 : Sl w B 1 v1 K (bv L)) (h2 : Sl w B' 1 v2 (K + M) (bv (L ++ List.replicate M 0))) hB hB' => law_same d s c y t true L M (v1 := v1) (v2 := v2) (w := w) (B := B) (B' := B') (by rw [htl]; exact h1) (by rw [htl]; exact h2) (Or.inr rfl) hB hB')
  have hsa : ∀ u v w B B', Sl w B 1 u n (bv R) → Sl w B' 1 v n (bv R) → Calls Try.prog 20 #[u, v] w (Quiet (.bool true) w) := by
    intro u v w B B' h1 h2
    have := ref_Same (l := R) (m := R) (u := u) (v := v) (by rw [hn]; exact h1) (by rw [hn]; exact h2)
    rw [sameB_yes rfl] at this
    exact this
  have SA := Lib.hid hsa
  have HN0 := Lib.hid hn0
  have hEE : ((E : Int) != (E : Int)) = false := by simp
  clear hR hE hn hM hsa hn0 hs0 htl hlc b0 l0 bl0 bk0 bd0 bs0 bc0 by_0 hK
  go_enter Try.func4, Try.ntmps4
  go_wp2_with fail
  obtain ⟨w0, hw0⟩ : ∃ w0, w0 = W.alloc (.cells #[.int .u64 (d : Int), .int .u64 (s : Int), .bool t, .int .u16 (c : Int), .int .u16 (y : Int), .slice A0 K c0] 32) := ⟨_, rfl⟩
  obtain ⟨g1, hg1⟩ : ∃ g1, g1 = W.heap.size := ⟨_, rfl⟩
  have B0 : Hid (Below W.heap.size W w0) := by rw [hw0]; exact (Below.refl _ _).alloc (Nat.le_refl _) _
  have G0 : Hid (g1 < w0.heap.size) := by rw [hw0, hg1]; simp [Hid]
  have C0 : Hid (w0.cell? ⟨g1, 0, none⟩ = some (.int .u64 (d : Int)) ∧ w0.cell? ⟨g1, 1, none⟩ = some (.int .u64 (s : Int)) ∧ w0.cell? ⟨g1, 2, none⟩ = some (.bool t) ∧ w0.cell? ⟨g1, 3, none⟩ = some (.int .u16 (c : Int)) ∧ w0.cell? ⟨g1, 4, none⟩ = some (.int .u16 (y : Int)) ∧ w0.cell? ⟨g1, 5, none⟩ = some (.slice A0 K c0)) := by
    rw [hw0, hg1]; exact ⟨by simp [go_sem], by simp [go_sem], by simp [go_sem], by simp [go_sem], by simp [go_sem], by simp [go_sem]⟩
  rw [← hw0]
  refine (TOC.out _ _ _ (S0.out.below B0.out) B0.out.size).mono ?_
  rintro e w1 ⟨A1, p1, rfl, hs, hb⟩
  clear hif hcut
  have S1 := Lib.hid hs
  have B1 := Lib.hid (B0.out.trans (hb.mono B0.out.size))
  obtain ⟨q0, q1, q2, q3, q4, q5⟩ := C0.out
  have C1 := Lib.hid (And.intro ((hb.cell (p := ⟨g1, 0, none⟩) G0.out).trans q0) (And.intro ((hb.cell (p := ⟨g1, 1, none⟩) G0.out).trans q1) (And.intro ((hb.cell (p := ⟨g1, 2, none⟩) G0.out).trans q2) (And.intro ((hb.cell (p := ⟨g1, 3, none⟩) G0.out).trans q3) (And.intro ((hb.cell (p := ⟨g1, 4, none⟩) G0.out).trans q4) ((hb.cell (p := ⟨g1, 5, none⟩) G0.out).trans q5))))))
  clear q0 q1 q2 q3 q4 q5 C0
  have G1 := Lib.hid (Nat.lt_of_lt_of_le G0.out hb.size)
  have HG1 := Lib.hid hg1
  clear hs hb hw0 hg1 B0 G0
  go_wp2_with fail
  refine (WF.out _ _ _ _ S1.out (Nat.le_refl _)).mono ?_
  rintro e w2 ⟨A2, p2, rfl, hs, hb⟩
  have S2 := Lib.hid hs
  have B2 := Lib.hid (B1.out.trans (hb.mono B1.out.size))
  obtain ⟨q0, q1, q2, q3, q4, q5⟩ := C1.out
  have C2 := Lib.hid (And.intro ((hb.cell (p := ⟨g1, 0, none⟩) G1.out).trans q0) (And.intro ((hb.cell (p := ⟨g1, 1, none⟩) G1.out).trans q1) (And.intro ((hb.cell (p := ⟨g1, 2, none⟩) G1.out).trans q2) (And.intro ((hb.cell (p := ⟨g1, 3, none⟩) G1.out).trans q3) (And.intro ((hb.cell (p := ⟨g1, 4, none⟩) G1.out).trans q4) ((hb.cell (p := ⟨g1, 5, none⟩) G1.out).trans q5))))))
  clear q0 q1 q2 q3 q4 q5 C1
  have G2 := Lib.hid (Nat.lt_of_lt_of_le G1.out hb.size)
  clear hs hb B1 G1 S1
  obtain ⟨c0', c1', c2', c3', c4', c5'⟩ := C2.out
  rw [HG1.out] at c0' c1' c2' c3' c4' c5'
  go_wp2_with fail
  refine (WQ.out _ _ _ _ (S0.out.below B2.out) B2.out.size).mono ?_
  rintro e w3 ⟨A3, p3, rfl, hs, hb⟩
  have S3 := Lib.hid hs
  have B3 := Lib.hid (B2.out.trans (hb.mono B2.out.size))
  have S23 := Lib.hid ((S2.out.below hb).mono hb.size)
  obtain ⟨q0, q1, q2, q3, q4, q5⟩ := C2.out
  have C3 := Lib.hid (And.intro ((hb.cell (p := ⟨g1, 0, none⟩) G2.out).trans q0) (And.intro ((hb.cell (p := ⟨g1, 1, none⟩) G2.out).trans q1) (And.intro ((hb.cell (p := ⟨g1, 2, none⟩) G2.out).trans q2) (And.intro ((hb.cell (p := ⟨g1, 3, none⟩) G2.out).trans q3) (And.intro ((hb.cell (p := ⟨g1, 4, none⟩) G2.out).trans q4) ((hb.cell (p := ⟨g1, 5, none⟩) G2.out).trans q5))))))
  clear q0 q1 q2 q3 q4 q5 C2
  have G3 := Lib.hid (Nat.lt_of_lt_of_le G2.out hb.size)
  clear hs hb B2 G2 S2 c0' c1' c2' c3' c4' c5'
  go_wp2_with fail
  refine (told02 _).mono ?_
  rintro e w4 ⟨rfl, hb⟩
  have B4 := Lib.hid (B3.out.trans (hb.mono B3.out.size))
  have S24 := Lib.hid ((S23.out.below hb).mono hb.size)
  have S34 := Lib.hid ((S3.out.below hb).mono hb.size)
  obtain ⟨q0, q1, q2, q3, q4, q5⟩ := C3.out
  have C4 := Lib.hid (And.intro ((hb.cell (p := ⟨g1, 0, none⟩) G3.out).trans q0) (And.intro ((hb.cell (p := ⟨g1, 1, none⟩) G3.out).trans q1) (And.intro ((hb.cell (p := ⟨g1, 2, none⟩) G3.out).trans q2) (And.intro ((hb.cell (p := ⟨g1, 3, none⟩) G3.out).trans q3) (And.intro ((hb.cell (p := ⟨g1, 4, none⟩) G3.out).trans q4) ((hb.cell (p := ⟨g1, 5, none⟩) G3.out).trans q5))))))
  clear q0 q1 q2 q3 q4 q5 C3
  have G4 := Lib.hid (Nat.lt_of_lt_of_le G3.out hb.size)
  clear hb B3 G3 S23 S3
  go_wp2_with fail
  refine (SA.out _ _ _ _ _ S24.out S34.out).mono ?_
  rintro e w5 ⟨rfl, n5, rfl⟩
  by_cases hE0 : E = 0
  · have PBB := Lib.hid (PB.out hE0)
    subst hE0
    have hne : (((0 : Nat) : Int) != 0) = false := by simp
    clear PB HN0 S34 TOC WF WQ SA
    go_wp2_with fail
    refine (PBB.out _ _ _ (S24.out.drewN n5) (Nat.le_refl _)).mono ?_
    rintro e w6 ⟨A6, p6, rfl, hs, hb⟩
    have hb4 : Below w4.heap.size w4 w6 := (below_drewN (Below.refl _ _) n5).trans hb
    have S6 := Lib.hid hs
    have B6 := Lib.hid (B4.out.trans (hb4.mono B4.out.size))
    obtain ⟨q0, q1, q2, q3, q4, q5⟩ := C4.out
    have C6 := Lib.hid (And.intro ((hb4.cell (p := ⟨g1, 0, none⟩) G4.out).trans q0) (And.intro ((hb4.cell (p := ⟨g1, 1, none⟩) G4.out).trans q1) (And.intro ((hb4.cell (p := ⟨g1, 2, none⟩) G4.out).trans q2) (And.intro ((hb4.cell (p := ⟨g1, 3, none⟩) G4.out).trans q3) (And.intro ((hb4.cell (p := ⟨g1, 4, none⟩) G4.out).trans q4) ((hb4.cell (p := ⟨g1, 5, none⟩) G4.out).trans q5))))))
    clear q0 q1 q2 q3 q4 q5 C4
    have G6 := Lib.hid (Nat.lt_of_lt_of_le G4.out hb4.size)
    clear hs hb hb4 B4 G4 S24 PBB hne hEE
    obtain ⟨w7, hw7⟩ : ∃ w7, w7 = w6.alloc (.cells #[.int .u64 (d : Int), .int .u64 (s : Int), .bool t, .int .u16 (c : Int), .int .u16 (y : Int), .slice A6 (K + M) p6] 27) := ⟨_, rfl⟩
    obtain ⟨g2, hg2⟩ : ∃ g2, g2 = w6.heap.size := ⟨_, rfl⟩
    have B7 : Hid (Below W.heap.size W w7) := by rw [hw7]; exact B6.out.alloc B6.out.size _
    have hb7 : Below w6.heap.size w6 w7 := by rw [hw7]; exact (Below.refl _ _).alloc (Nat.le_refl _) _
    have S7 := Lib.hid ((S6.out.below hb7).mono hb7.size)
    obtain ⟨q0, q1, q2, q3, q4, q5⟩ := C6.out
    have C7 := Lib.hid (And.intro ((hb7.cell (p := ⟨g1, 0, none⟩) G6.out).trans q0) (And.intro ((hb7.cell (p := ⟨g1, 1, none⟩) G6.out).trans q1) (And.intro ((hb7.cell (p := ⟨g1, 2, none⟩) G6.out).trans q2) (And.intro ((hb7.cell (p := ⟨g1, 3, none⟩) G6.out).trans q3) (And.intro ((hb7.cell (p := ⟨g1, 4, none⟩) G6.out).trans q4) ((hb7.cell (p := ⟨g1, 5, none⟩) G6.out).trans q5))))))
    clear q0 q1 q2 q3 q4 q5 C6
    have hgz1 : g1 < w7.heap.size := Nat.lt_of_lt_of_le G6.out hb7.size
    have hgz2 : g2 < w7.heap.size := by rw [hw7, hg2]; simp
    have D7 : Hid (w7.cell? ⟨g2, 0, none⟩ = some (.int .u64 (d : Int)) ∧ w7.cell? ⟨g2, 1, none⟩ = some (.int .u64 (s : Int)) ∧ w7.cell? ⟨g2, 2, none⟩ = some (.bool t) ∧ w7.cell? ⟨g2, 3, none⟩ = some (.int .u16 (c : Int)) ∧ w7.cell? ⟨g2, 4, none⟩ = some (.int .u16 (y : Int)) ∧ w7.cell? ⟨g2, 5, none⟩ = some (.slice A6 (K + M) p6)) := by
      rw [hw7, hg2]; exact ⟨by simp [go_sem], by simp [go_sem], by simp [go_sem], by simp [go_sem], by simp [go_sem], by simp [go_sem]⟩
    have HS0 : Hid (w7.cell? ⟨g1, 0, none⟩ = some (.int .u64 (d : Int)) ∧ w7.cell? ⟨g1, 1, none⟩ = some (.int .u64 (s : Int)) ∧ w7.cell? ⟨g1, 2, none⟩ = some (.bool t) ∧ w7.cell? ⟨g1, 3, none⟩ = some (.int .u16 (c : Int)) ∧ w7.cell? ⟨g1, 4, none⟩ = some (.int .u16 (y : Int)) ∧ w7.cell? ⟨g1, 5, none⟩ = some (.slice A0 K c0) ∧ w7.cell? ⟨g2, 0, none⟩ = some (.int .u64 (d : Int)) ∧ w7.cell? ⟨g2, 1, none⟩ = some (.int .u64 (s : Int)) ∧ w7.cell? ⟨g2, 2, none⟩ = some (.bool t) ∧ w7.cell? ⟨g2, 3, none⟩ = some (.int .u16 (c : Int)) ∧ w7.cell? ⟨g2, 4, none⟩ = some (.int .u16 (y : Int)) ∧ w7.cell? ⟨g2, 5, none⟩ = some (.slice A6 (K + M) p6)) := by
      obtain ⟨q0, q1, q2, q3, q4, q5⟩ := C7.out
      exact ⟨q0, q1, q2, q3, q4, q5, D7.out⟩
    have bw7 := B7.out
    have zw7 := bw7.size
    go_wp2_with fail
    rw [← hw7]
    rw [← HG1.out, ← hg2]
    rw [← HG1.out] at bw7 zw7
    have hBW : Below g1 W w7 := bw7
    have zwW : W.heap.size ≤ w7.heap.size := B7.out.size
    clear hw7 hg2 hb7 S6 B6 G6 C7 D7
    go_region_held3 (fun w' => w'.cell? ⟨g1, 0, none⟩ = some (.int .u64 (d : Int)) ∧ w'.cell? ⟨g1, 1, none⟩ = some (.int .u64 (s : Int)) ∧ w'.cell? ⟨g1, 2, none⟩ = some (.bool t) ∧ w'.cell? ⟨g1, 3, none⟩ = some (.int .u16 (c : Int)) ∧ w'.cell? ⟨g1, 4, none⟩ = some (.int .u16 (y : Int)) ∧ w'.cell? ⟨g1, 5, none⟩ = some (.slice A0 K c0) ∧ w'.cell? ⟨g2, 0, none⟩ = some (.int .u64 (d : Int)) ∧ w'.cell? ⟨g2, 1, none⟩ = some (.int .u64 (s : Int)) ∧ w'.cell? ⟨g2, 2, none⟩ = some (.bool t) ∧ w'.cell? ⟨g2, 3, none⟩ = some (.int .u16 (c : Int)) ∧ w'.cell? ⟨g2, 4, none⟩ = some (.int .u16 (y : Int)) ∧ w'.cell? ⟨g2, 5, none⟩ = some (.slice A6 (K + M) p6))
      (first | (with_reducible assumption) | (with_reducible exact keep12 (by assumption) (fun p hp => hb.cell (by rcases hp with h | h <;> rw [h] <;> go_size))) | (exact HS0.out))
      (first
        | (go_at_call 19; (with_reducible refine Calls.mono (FR.out _ _ _ (S7.out.below (by (repeat' (first | (with_reducible exact Below.refl _ _) | (with_reducible assumption) | (with_reducible refine Below.setCell ?_ ?_ _) | (with_reducible refine Below.alloc ?_ ?_ _) | (with_reducible refine below_drewN ?_ _) | (with_reducible refine Below.drew ?_) | go_size)))) (by go_size)) ?_); rintro e w8 ⟨A8, p8, rfl, hs8, hb⟩; have hC8 : Below w7.heap.size w7 w8 := Below.trans (by (repeat' (first | (with_reducible exact Below.refl _ _) | (with_reducible assumption) | (with_reducible refine Below.setCell ?_ ?_ _) | (with_reducible refine Below.alloc ?_ ?_ _) | (with_reducible refine below_drewN ?_ _) | (with_reducible refine Below.drew ?_) | go_size))) (hb.mono (by go_size)); have hz8 := hC8.size; have hS8 : Sl w8 W.heap.size 1 (.slice A0 K c0) K (bv L) := S0.out.below (B7.out.trans (hC8.mono B7.out.size)))
        | (go_at_call 18; (with_reducible refine Calls.mono (SM.out _ _ _ _ _ (hS8.below (by (repeat' (first | (with_reducible exact Below.refl _ _) | (with_reducible assumption) | (with_reducible refine Below.setCell ?_ ?_ _) | (with_reducible refine Below.alloc ?_ ?_ _) | (with_reducible refine below_drewN ?_ _) | (with_reducible refine Below.drew ?_) | go_size)))) (hs8.below (by (repeat' (first | (with_reducible exact Below.refl _ _) | (with_reducible assumption) | (with_reducible refine Below.setCell ?_ ?_ _) | (with_reducible refine Below.alloc ?_ ?_ _) | (with_reducible refine below_drewN ?_ _) | (with_reducible refine Below.drew ?_) | go_size)))) (by go_size) (by go_size)) ?_); rintro e w9 ⟨rfl, hb⟩; have hC9 : Below w7.heap.size w7 w9 := Below.trans (by (repeat' (first | (with_reducible exact Below.refl _ _) | (with_reducible assumption) | (with_reducible refine Below.setCell ?_ ?_ _) | (with_reducible refine Below.alloc ?_ ?_ _) | (with_reducible refine below_drewN ?_ _) | (with_reducible refine Below.drew ?_) | go_size))) (hb.mono (by go_size)); have hz9 := hC9.size))
    all_goals
      have HB9 := Lib.hid (B7.out.trans (hC9.mono B7.out.size))
      clear hC9 hz9 hC8 hz8 hs8 hS8 bw7 zw7 zwW hBW hgz1 hgz2 S7
      go_wp2
      go_ret
      exact ⟨by simp, HB9.out⟩
  · obtain rfl := HN0.out hE0
    have hne : ((E : Int) != 0) = true := by simp; omega
    clear hE0 PB
    go_wp2
    go_ret
    exact ⟨by simp, below_drewN B4.out _⟩

set_option maxRecDepth 100000 in
/-- What the walk gives, for every argument: the row's own words. -/
theorem contract (H : Type) (enc : TypeId × Value → H) (W : World) (base : Nat) (args : Array Value) (ds gs : List (DataW H)) (before : List MemPlace)
    (hval : ∀ (j : Nat) t v, Try.f4.params[j]? = some t → args[j]? = some v → Value.okWide Try.prog W .any base t v)
    (hW : DataW.Whole enc Try.prog Try.f4.params.toList Rows.frameWritesSpec.vars false W args.toList ds gs before)
    (hsz0 : (DataW.weightsEach Try.prog (Try.f4.params.toList ++ Rows.frameWritesSpec.plain.varTypes Try.prog) (ds ++ gs)).all (· ≤ reachBytes) = true) :
    Calls Try.prog 4 args W fun e W' => ∃ v, e = .returned v ∧ Rows.frameWritesSpec.post enc Try.prog Try.f4 false true false false W args v W' := by
  have hW' := hW
  have hsz : (DataW.weightsEach Try.prog (Try.f4.params.toList ++ Rows.frameWritesSpec.plain.varTypes Try.prog) (ds ++ gs)).all (· ≤ reachBytes) = true := hsz0
  obtain ⟨p, q, hA0, hV, rfl, hfz, hnd⟩ := hW
  have hA : DataW.TrodAll enc Try.prog W 0 (fun _ => true) true Try.f4.params.toList args.toList ds p := hA0
  rw [Try.params4] at hA hval hsz
  obtain ⟨v0, vs0, d0, ds0, p0, q0, hargs, rfl, rfl, h0, r0⟩ := trodAll_cons hA
  obtain ⟨rfl, rfl, rfl⟩ := trodAll_nil r0
  obtain rfl : args = #[v0] := by cases args; simp_all
  obtain ⟨a0, A0, k0, c0, rfl, bd0, bs0, bc0, by_0, bl0, bk0, b0, l0⟩ := open_fr Try.underlying32 (by kernel_rfl) (by kernel_rfl) (by kernel_rfl) (by kernel_rfl) (by kernel_rfl) (by kernel_rfl) (by kernel_rfl) (by kernel_rfl) Try.underlying5 (by kernel_rfl) (by kernel_rfl) (fun n hn => by simpa using List.all_eq_true.1 hsz n (DataW.weights_mem_each (j := 0) rfl rfl n hn)) (hval 0 32 v0 rfl rfl) h0
  refine (walk W a0 A0 k0 c0 bd0 bs0 bc0 by_0 bl0 bk0 b0 l0).mono fun e W' ⟨he, hb⟩ => ?_
  subst he
  exact close_true (by kernel_rfl) Try.underlying4 (by kernel_rfl) (by kernel_rfl) rfl rfl hW' hb

set_option maxRecDepth 100000 in
theorem lifted (os : Os) (started : os.Started) (H : Type) (enc : TypeId × Value → H) :
    ReturnsInHanded {} Try.checked os 4 .any (Rows.frameWritesSpec.pre6 enc Try.prog Try.f4 Rows.frameWritesRow.domain false) (Rows.frameWritesSpec.post enc Try.prog Try.f4 false true false false) := by
  refine returnsInHanded_of_change_sized (C := Try.checked) own started (by kernel_rfl) Try.func4
    (ChangeSpec.witness6 (enc := enc) (C := Try.checked) false ⟨#[], #[.agg #[.int .u64 0, .int .u64 0, .bool false, .int .u16 0, .int .u16 0, .slice none 0 0]], []⟩ 8 (by kernel_rfl) (by kernel_rfl) (by kernel_rfl) (by kernel_rfl)) ?_
  intro W base args ds gs before hval hW _ hsz _
  exact contract H enc W base args ds gs before hval hW hsz

theorem proved : Rows.FrameWritesSaid :=
  OpenClaim.holds_of_wide 4 Try.f4 rfl rfl rfl rfl rfl rfl rfl ⟨rfl, rfl, rfl, rfl, rfl⟩ rfl rfl rfl rfl rfl (by kernel_rfl) Try.func4 (by kernel_rfl)
    (of_decide_eq_true (by kernel_rfl)) (by unfold Func.isWrapper; first | (rw [if_pos (by decide +kernel)]; kernel_rfl) | (rw [if_neg (by decide +kernel)]; exact ⟨rfl, rfl⟩))
    (fun os started H enc _ => lifted os started H enc)
#print axioms proved
end Go.Proofs.Ythamjkccljhhcaa.frameWrites
