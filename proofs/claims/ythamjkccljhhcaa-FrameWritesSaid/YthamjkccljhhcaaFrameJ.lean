/-
  The document's Out, where it answers an error. No statement is proved here.
-/
import Derived.Test.YthamjkccljhhcaaFrameE
import Derived.Test.YthamjkccljhhcaaFrameI
import Derived.Test.YthamjkccljhhcaaBase2
namespace Go.Proofs.Ythamjkccljhhcaa
open Go.RowKit

set_option maxRecDepth 100000 in
set_option maxHeartbeats 1000000 in
theorem ref_Out_bad {l : List Nat} (hl : ∀ x ∈ l, x < 256) {v : Value} {w : World} {B : Nat} (hv : Sl w B 1 v l.length (bv l)) (hB : B ≤ w.heap.size) (tagged : Bool) (vid : Int) (he : errN l ≠ 0) :
    Calls Try.prog 27 #[v, .bool tagged, .int .i64 vid] w (OutsTo l tagged vid w) := by
  have ho := oErr_bad he tagged vid
  have k1 : ∀ W, B ≤ W.heap.size → Sl W B 1 v l.length (bv l) → Calls Try.prog 16 #[v] W fun e w' => ∃ A c, e = .returned (.tuple #[.agg #[.int .u64 0, .int .u64 0, .bool false, .int .u16 0, .int .u16 0, .slice A 0 c], .int .i64 (errN l : Nat)]) ∧ w'.ownsRow W.heap.size 5 1 (.slice A 0 c) 0 [] ∧ Below W.heap.size W w' := fun W hW hs => (ref_Parse hl hs hW).mono fun _ _ h => ParsesTo.err h he
  obtain ⟨E, hE⟩ : ∃ E, E = errN l := ⟨_, rfl⟩
  rw [← hE] at he ho k1
  have hne : ((E : Int) != 0) = true := by simp; omega
  have HE := Lib.hid he
  have HO := Lib.hid ho
  have K1 := Lib.hid k1
  have HV := Lib.hid hv
  clear hE he ho k1 hv
  go_enter Try.func27, Try.ntmps27
  go_wp2_with fail
  refine Calls.mono (K1.out _ hB HV.out) ?_
  rintro e w1 ⟨A1, p1, rfl, ho1, hb1⟩
  have hB1 := Lib.hid hb1
  have hz1 := hb1.size
  clear ho1 hb1
  go_wp2
  go_ret2
  refine OutsTo.err HO.out HE.out ?_
  have := hB1.out
  (repeat' (first | (with_reducible exact Below.refl _ _) | (with_reducible assumption) | (with_reducible refine Below.setCell ?_ ?_ _) | (with_reducible refine Below.alloc ?_ ?_ _) | (with_reducible refine below_drewN ?_ _) | (with_reducible refine Below.drew ?_) | go_size))
set_option maxRecDepth 100000 in
set_option maxHeartbeats 1000000 in
theorem ref_Out_vid {l : List Nat} (hl : ∀ x ∈ l, x < 256) {v : Value} {w : World} {B : Nat} (hv : Sl w B 1 v l.length (bv l)) (hB : B ≤ w.heap.size) (vid : Int) (he : errN l = 0) (hvid : vid < 1 ∨ 4094 < vid) :
    Calls Try.prog 27 #[v, .bool true, .int .i64 vid] w (OutsTo l true vid w) := by
  have ho := oErr_vid he hvid
  obtain ⟨t, ht⟩ : ∃ t : Nat, t = (if tagB l then num2 l 14 else 0) := ⟨_, rfl⟩
  obtain ⟨q, hq⟩ : ∃ q : Nat, q = l.length - headN l := ⟨_, rfl⟩
  obtain ⟨y, hy⟩ : ∃ y : Nat, y = num2 l (headN l - 2) := ⟨_, rfl⟩
  obtain ⟨g, hg⟩ : ∃ g, g = tagB l := ⟨_, rfl⟩
  have k1 : ∀ W, B ≤ W.heap.size → Sl W B 1 v l.length (bv l) → Calls Try.prog 16 #[v] W fun e w' => ∃ A c, e = .returned (.tuple #[.agg #[.int .u64 (ofk l 6 : Nat), .int .u64 (ofk (l.drop 6) 6 : Nat), .bool g, .int .u16 (t : Int), .int .u16 (y : Int), .slice A q c], .int .i64 0]) ∧ Below W.heap.size W w' := fun W hW hs => (ref_Parse hl hs hW).mono fun _ _ h => by
    obtain ⟨A, c, h1, h2, h3⟩ := ParsesTo.ok h he
    exact ⟨A, c, by rw [h1, ht, hq, hy, hg], h3⟩
  have HO := Lib.hid ho
  have K1 := Lib.hid k1
  have HV := Lib.hid hv
  clear he ho k1 hv ht hq hy hg
  rcases hvid with h | h
  all_goals
    go_enter Try.func27, Try.ntmps27
    go_wp2_with fail
    refine Calls.mono (K1.out _ hB HV.out) ?_
    rintro e w1 ⟨A1, p1, rfl, hb1⟩
    have hB1 := Lib.hid hb1
    have hz1 := hb1.size
    clear hb1
    go_wp2
    go_ret2
    refine OutsTo.err (E := 6) HO.out (by decide) ?_
    have := hB1.out
    (repeat' (first | (with_reducible exact Below.refl _ _) | (with_reducible assumption) | (with_reducible refine Below.setCell ?_ ?_ _) | (with_reducible refine Below.alloc ?_ ?_ _) | (with_reducible refine below_drewN ?_ _) | (with_reducible refine Below.drew ?_) | go_size))
end Go.Proofs.Ythamjkccljhhcaa
