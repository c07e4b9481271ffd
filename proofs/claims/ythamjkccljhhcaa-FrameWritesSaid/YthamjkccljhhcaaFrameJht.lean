/-
  The document's Out, one way through. No statement is proved here.
-/
import Derived.Test.YthamjkccljhhcaaFrameJ
import Derived.Deep.RegionHeld3
namespace Go.Proofs.Ythamjkccljhhcaa
open Go.RowKit

set_option maxRecDepth 100000 in
set_option maxHeartbeats 600000 in
theorem ref_Out_had_tag {l : List Nat} (hl : ∀ x ∈ l, x < 256) {v : Value} {w : World} {B : Nat} (hv : Sl w B 1 v l.length (bv l)) (hB : B ≤ w.heap.size) (vid : Nat) (h1 : 1 ≤ vid) (h2 : vid ≤ 4094) (he : errN l = 0) (ht : tagB l = true) :
    Calls Try.prog 27 #[v, .bool true, .int .i64 (vid : Int)] w (OutsTo l true (vid : Int) w) := by
  obtain ⟨h60, hlong, _⟩ := errN_ok he
  have hlong2 : l.length ≤ 1518 := by unfold headN at hlong; split at hlong <;> omega
  have ho : oErr l true (vid : Int) = 0 := oErr_tag he (by omega) (by omega)
  have hbytes : oBytes l true ((vid : Int)).toNat = padL (l.take 12 ++ ([129, 0] ++ by2 (num2 l 14 / 4096 * 4096 + vid)) ++ l.drop 16) := by
    unfold oBytes
    rw [ht]
    simp
  obtain ⟨r, hr⟩ : ∃ r, r = l.take 12 ++ ([129, 0] ++ by2 (num2 l 14 / 4096 * 4096 + vid)) ++ l.drop 16 := ⟨_, rfl⟩
  rw [← hr] at hbytes
  have HR := Lib.hid hr
  clear hr
  obtain ⟨t, htt⟩ : ∃ t : Nat, t = num2 l 14 := ⟨_, rfl⟩
  have htb : t < 65536 := by rw [htt]; exact num2_lt hl 14
  obtain ⟨q, hq⟩ : ∃ q : Nat, q = l.length - headN l := ⟨_, rfl⟩
  obtain ⟨y, hy⟩ : ∃ y : Nat, y = num2 l (headN l - 2) := ⟨_, rfl⟩
  have k1 : ∀ W, B ≤ W.heap.size → Sl W B 1 v l.length (bv l) → Calls Try.prog 16 #[v] W fun e w' => ∃ A c, e = .returned (.tuple #[.agg #[.int .u64 (ofk l 6 : Nat), .int .u64 (ofk (l.drop 6) 6 : Nat), .bool true, .int .u16 (t : Int), .int .u16 (y : Int), .slice A q c], .int .i64 0]) ∧ Below W.heap.size W w' := fun W hW hs => (ref_Parse hl hs hW).mono fun _ _ h => by
    obtain ⟨A, c, h1, h2, h3⟩ := ParsesTo.ok h he
    rw [ht] at h1
    exact ⟨A, c, by rw [h1, htt, hq, hy]; rfl, h3⟩
  have K1 := Lib.hid k1
  clear k1
  obtain ⟨b, off, cap, rfl, hcap, hmx, hbB, _⟩ := hv.at_ (by omega)
  have s0 := hv.cutTo (k := 12) (by omega)
  have sR := hv.dropAt (k := 16) (by omega)
  rw [bv_drop] at sR
  rw [Nat.mul_one, bv_take] at s0
  have S0 := Lib.hid s0
  have SR := Lib.hid sR
  have HO := Lib.hid ho
  have HBY := Lib.hid hbytes
  have HV := Lib.hid hv
  have HT := Lib.hid htt
  have cR : ¬ cap = 16 := by omega
  unfold maxLen at hmx
  obtain ⟨K, hK⟩ : ∃ K : Nat, K = t / 4096 * 4096 + vid := ⟨_, rfl⟩
  have hKb : K < 65536 := by omega
  have hw0 : IntKind.u16.wrap ((t : Int) / 4096) = (t : Int) / 4096 := IntWalk.u16_in _ (by omega)
  have hw1 : IntKind.u16.wrap ((t : Int) / 4096 * 4096) = (t : Int) / 4096 * 4096 := IntWalk.u16_in _ (by omega)
  have hw2 : IntKind.u16.wrap (vid : Int) = (vid : Int) := IntWalk.u16_in _ (by omega)
  have hw3 : IntKind.u16.wrap (K : Int) = (K : Int) := IntWalk.u16_in _ (by omega)
  have hw4 : (t : Int) / 4096 * 4096 + (vid : Int) = (K : Int) := by omega
  have HK := Lib.hid hK
  clear hK
  clear he ht hv s0 sR ho hbytes hq hy htt
  go_enter Try.func27, Try.ntmps27
  go_wp2_with fail
  refine Calls.mono (K1.out _ hB HV.out) ?_
  rintro e w1 ⟨A1, p1, rfl, hb1⟩
  have HB1 := Lib.hid hb1
  have hz1 := hb1.size
  clear hb1
  go_wp2_with (first
    | (at_builtin; refine wpList_apv _ rfl stBytes (.tmp 31) (.tmp 33) rfl (w1.heap.size + 1) _ 0 [] rfl (by refine own_empty_at ?_ ?_ <;> first | omega | (simp; done) | (simp; omega)) B _ 12 (bv (l.take 12)) rfl (S0.out.below (by have := HB1.out.mono hB; (repeat' (first | (with_reducible exact Below.refl _ _) | (with_reducible assumption) | (with_reducible refine Below.setCell ?_ ?_ _) | (with_reducible refine Below.alloc ?_ ?_ _) | (with_reducible refine below_drewN ?_ _) | (with_reducible refine Below.drew ?_) | go_size)))) (bv_one _) (by omega) (by go_size) ?_; intro A2 p2 w2 ho2 hg2 hat2 hb2; clear hg2 hat2; obtain ⟨hc2, hf2⟩ := bcell hb2; have hz2 := hb2.size; try simp at hz2)
    | fail)
  have ho2' : w2.ownsRow (w1.heap.size + 1) 5 1 (.slice A2 12 p2) 12 (bv (l.take 12)) := by simpa using ho2
  have HO2 := Lib.hid ho2'
  have hB2 : Below w.heap.size w w2 := Below.trans (by have := HB1.out; (repeat' (first | (with_reducible exact Below.refl _ _) | (with_reducible assumption) | (with_reducible refine Below.setCell ?_ ?_ _) | (with_reducible refine Below.alloc ?_ ?_ _) | (with_reducible refine below_drewN ?_ _) | (with_reducible refine Below.drew ?_) | go_size))) (hb2.mono (by omega))
  have HB2 := Lib.hid hB2
  have r3 : w2.cell? ⟨w1.heap.size, 3, none⟩ = some (.int .u16 (t : Int)) := by rw [hc2 _ _ (by omega)]; simp [go_sem]
  clear ho2 ho2' hb2 hB2 hc2 hf2
  go_region_held3 (fun w' => w'.cell? ⟨w1.heap.size, 3, none⟩ = some (.int .u16 (t : Int)))
    (first | (exact (hb5.cell (p := ⟨w1.heap.size, 3, none⟩) (by simp)).trans (by assumption)) | (exact (hb4.cell (p := ⟨w1.heap.size, 3, none⟩) (by show w1.heap.size < w3.heap.size; omega)).trans (by assumption)) | (exact (hb3.cell (p := ⟨w1.heap.size, 3, none⟩) (by simp)).trans ((World.cell?_alloc_lt w2 _ _ (by show w1.heap.size < w2.heap.size; omega)).trans r3)) | go_keep)
    (first
      | (go_at_call 62; (with_reducible refine Calls.mono (ref_bytes hKb) ?_); rintro e w4 ⟨A4, p4, rfl, ho4, hb4⟩)
      | (refine step_app _ (by rfl) stBytes _ _ (by rfl) (w1.heap.size + 1) (.slice A2 12 p2) 12 (bv (l.take 12)) (by rfl) ((HO2.out.alloc _).drew) (w2.heap.size + 1) _ 2 [.int .u8 129, .int .u8 0] (by rfl) ((Sl.lit w2 #[.int .u8 129, .int .u8 0] _ 2 rfl (by decide)).drew) (by simp [Value.oneCell']) (by omega) (by simp; omega) ?_; intro v3 w3 ho3 hg3 hat3 hb3; have hz3 : w2.heap.size + 1 ≤ w3.heap.size := by simpa using hb3.size)
      | (refine step_app _ (by rfl) stBytes _ _ (by rfl) (w1.heap.size + 1) v3 (12 + 2) _ (by rfl) (own_below ho3 hb4) w4.heap.size _ 2 (bv (by2 K)) (by rfl) (Sl.of_own ho4) (bv_one _) (by omega) (by have h4 := hb4.size; show w1.heap.size + 1 ≤ w4.heap.size; omega) ?_; intro v5 w5 ho5 hg5 hat5 hb5))
  all_goals
    have hz4 := hb4.size
    have hz5 := hb5.size
    have hz5' : w1.heap.size + 1 ≤ w5.heap.size := by omega
    have hB5 : Below w.heap.size w w5 := ((((HB2.out.alloc (by omega) _).drew).trans (hb3.mono (by omega))).trans (hb4.mono (by omega))).trans (hb5.mono (by omega))
    have HB5 := Lib.hid hB5
    have hl2 : bv (l.take 12) ++ [.int .u8 129, .int .u8 0] ++ bv (by2 K) = bv (l.take 12 ++ ([129, 0] ++ by2 K)) := by simp [bv]
    rw [hl2] at ho5
    have HO5 := Lib.hid ho5
    obtain ⟨A5, p5, hv5, _, _⟩ := (Sl.of_own ho5).form
    have HV5 := Lib.hid hv5
    clear ho5 ho4 ho3 hb3 hb4 hb5 hB5 hg3 hat3 hg5 hat5 hl2 hv5
    go_wp2_with (first
      | (at_builtin; refine wpList_apv _ rfl stBytes (.tmp 48) (.tmp 51) rfl (w1.heap.size + 1) _ _ _ rfl HO5.out B _ (l.length - 16) (bv (l.drop 16)) rfl (SR.out.below (HB5.out.mono hB)) (bv_one _) (by omega) hz5' ?_; intro A6 p6 w6 ho6 hg6 hat6 hb6; clear hg6 hat6)
      | fail)
    rw [← bv_append, HK.out, HT.out, ← HR.out] at ho6
    have HO6 := Lib.hid ho6
    have hz6 := hb6.size
    have HB6 := Lib.hid (HB5.out.trans (hb6.mono (by omega)))
    clear ho6 hb6
    refine (ref_pad HO6.out (by omega) (by omega)).mono ?_
    rintro e w7 ⟨A7, p7, rfl, ho7, hb7⟩
    go_wp2
    go_ret2
    exact OutsTo.ok HO.out HBY.out rfl (own_base ho7 (by omega)) (HB6.out.trans (hb7.mono (by omega)))
end Go.Proofs.Ythamjkccljhhcaa
