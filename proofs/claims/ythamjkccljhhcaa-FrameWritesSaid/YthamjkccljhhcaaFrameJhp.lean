/-
  The document's Out, one way through. No statement is proved here.
-/
import Derived.Test.YthamjkccljhhcaaFrameJ
import Derived.Deep.RegionHeld3
namespace Go.Proofs.Ythamjkccljhhcaa
open Go.RowKit

set_option maxRecDepth 100000 in
set_option maxHeartbeats 600000 in
theorem ref_Out_had_plain {l : List Nat} (hl : ∀ x ∈ l, x < 256) {v : Value} {w : World} {B : Nat} (hv : Sl w B 1 v l.length (bv l)) (hB : B ≤ w.heap.size) (vid : Int)  (he : errN l = 0) (ht : tagB l = true) :
    Calls Try.prog 27 #[v, .bool false, .int .i64 vid] w (OutsTo l false vid w) := by
  obtain ⟨h60, hlong, _⟩ := errN_ok he
  have hlong2 : l.length ≤ 1518 := by unfold headN at hlong; split at hlong <;> omega
  have ho : oErr l false vid = 0 := oErr_plain he vid
  have hbytes : oBytes l false (vid).toNat = padL (l.take 12 ++ l.drop 16) := by
    unfold oBytes
    rw [ht]
    simp
  obtain ⟨r, hr⟩ : ∃ r, r = l.take 12 ++ l.drop 16 := ⟨_, rfl⟩
  rw [← hr] at hbytes
  have HR := Lib.hid hr
  clear hr
  obtain ⟨t, htt⟩ : ∃ t : Nat, t = num2 l 14 := ⟨_, rfl⟩
  have htb : t < 65536 := by rw [htt]; exact num2_lt hl 14
  obtain ⟨q, hq⟩ : ∃ q : Nat, q = l.length - headN l := ⟨_, rfl⟩
  obtain ⟨y, hy⟩ : ∃ y : Nat, y = num2 l (headN l - 2) := ⟨_, rfl⟩
  have k1 : ∀ W, B ≤ W.heap.size → Sl W B 1 v l.length (bv l) → Calls Try.prog 16 #[v] W fun e w' => ∃ A c, e = .returned (.tuple #[.agg #[.int .u64 (ofk l 6 : Nat), .int .u64 (ofk (l.drop 6) 6 : Nat), .bool true, .int .u16 (t : Int), .int .u16 (y : Int), .slice A q c], .int .i64 0]) ∧ Below W.heap.size W w' := fun W hW hs => (ref_Parse hl hs hW).mono fun _ _ h => by
    obtain ⟨A, c, h1, h2, h3⟩ := ParsesTo.ok h he
    rw [ht] at h1
    exact ⟨A, c, by rw [h1, htt, hq, hy]; rfl, h3⟩
  have K1 := Lib.hid k1
  clear k1
  obtain ⟨b, off, cap, rfl, hcap, hmx, hbB, _⟩ := hv.at_ (by omega)
  have s0 := hv.cutTo (k := 12) (by omega)
  have sR := hv.dropAt (k := 16) (by omega)
  rw [bv_drop] at sR
  rw [Nat.mul_one, bv_take] at s0
  have S0 := Lib.hid s0
  have SR := Lib.hid sR
  have HO := Lib.hid ho
  have HBY := Lib.hid hbytes
  have HV := Lib.hid hv
  have HT := Lib.hid htt
  have cR : ¬ cap = 16 := by omega
  unfold maxLen at hmx
  clear he ht hv s0 sR ho hbytes hq hy htt
  go_enter Try.func27, Try.ntmps27
  go_wp2_with fail
  refine Calls.mono (K1.out _ hB HV.out) ?_
  rintro e w1 ⟨A1, p1, rfl, hb1⟩
  have HB1 := Lib.hid hb1
  have hz1 := hb1.size
  clear hb1
  go_wp2_with (first
    | (at_builtin; refine wpList_apv _ rfl stBytes (.tmp 31) (.tmp 33) rfl (w1.heap.size + 1) _ 0 [] rfl (by refine own_empty_at ?_ ?_ <;> first | omega | (simp; done) | (simp; omega)) B _ 12 (bv (l.take 12)) rfl (S0.out.below (by have := HB1.out.mono hB; (repeat' (first | (with_reducible exact Below.refl _ _) | (with_reducible assumption) | (with_reducible refine Below.setCell ?_ ?_ _) | (with_reducible refine Below.alloc ?_ ?_ _) | (with_reducible refine below_drewN ?_ _) | (with_reducible refine Below.drew ?_) | go_size)))) (bv_one _) (by omega) (by go_size) ?_; intro A2 p2 w2 ho2 hg2 hat2 hb2; clear hg2 hat2; obtain ⟨hc2, hf2⟩ := bcell hb2; have hz2 := hb2.size; try simp at hz2; have hB2 : Below w.heap.size w w2 := Below.trans (by have := HB1.out; (repeat' (first | (with_reducible exact Below.refl _ _) | (with_reducible assumption) | (with_reducible refine Below.setCell ?_ ?_ _) | (with_reducible refine Below.alloc ?_ ?_ _) | (with_reducible refine below_drewN ?_ _) | (with_reducible refine Below.drew ?_) | go_size))) (hb2.mono (by omega)))
    | (at_builtin; refine wpList_apv _ rfl stBytes (.tmp 48) (.tmp 51) rfl (w1.heap.size + 1) _ _ _ rfl ho2 B _ (l.length - 16) (bv (l.drop 16)) rfl (SR.out.below (hB2.mono hB)) (bv_one _) (by omega) (by omega) ?_; intro A3 p3 w3 ho3 hg3 hat3 hb3; clear hg3 hat3)
    | fail)
  rw [List.nil_append, ← bv_append, ← HR.out] at ho3
  have HO3 := Lib.hid ho3
  have HB3 := Lib.hid (hB2.trans (hb3.mono (by omega)))
  have hz3 := hb3.size
  clear ho3 hb3 ho2 hb2 hB2 hc2 hf2
  refine (ref_pad HO3.out (by omega) (by omega)).mono ?_
  rintro e w4 ⟨A4, p4, rfl, ho4, hb4⟩
  go_wp2
  go_ret2
  exact OutsTo.ok HO.out HBY.out rfl (own_base ho4 (by omega)) (HB3.out.trans (hb4.mono (by omega)))
end Go.Proofs.Ythamjkccljhhcaa
