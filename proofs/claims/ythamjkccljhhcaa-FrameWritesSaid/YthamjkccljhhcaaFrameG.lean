/-
  The program's own Out: it answers what 'outR' and 'oErr' say. No statement is proved here.
-/
import Derived.Test.YthamjkccljhhcaaFrameF
import Derived.Test.YthamjkccljhhcaaPlainOut
import Derived.Test.YthamjkccljhhcaaBase2
namespace Go.Proofs.Ythamjkccljhhcaa
open Go.RowKit

/-- What both answer. -/
def OutsTo (l : List Nat) (tagged : Bool) (vid : Int) (w : World) (e : Ending) (w' : World) : Prop :=
  ∃ A c, e = .returned (.tuple #[.slice A (outR l tagged vid).length c, .int .i64 (oErr l tagged vid : Nat)]) ∧ w'.ownsRow w.heap.size 5 1 (.slice A (outR l tagged vid).length c) (outR l tagged vid).length (bv (outR l tagged vid)) ∧ Below w.heap.size w w'
theorem OutsTo.err {l : List Nat} {tagged : Bool} {vid : Int} {w w' : World} {E : Nat} (he : oErr l tagged vid = E) (h0 : E ≠ 0) (hb : Below w.heap.size w w') : OutsTo l tagged vid w (.returned (.tuple #[.slice none 0 0, .int .i64 (E : Int)])) w' := by
  have ho : outR l tagged vid = [] := by unfold outR; rw [if_neg (by omega)]
  refine ⟨none, 0, ?_, ?_, hb⟩
  · rw [ho, he]; rfl
  · rw [ho]; exact World.ownsRow_nil _ _ _ _
theorem OutsTo.ok {l : List Nat} {tagged : Bool} {vid : Int} {w w' : World} {A : Option Addr} {c n : Nat} {r : List Nat} (he : oErr l tagged vid = 0) (hr : oBytes l tagged vid.toNat = r) (hn : r.length = n) (ho : w'.ownsRow w.heap.size 5 1 (.slice A n c) n (bv r)) (hb : Below w.heap.size w w') :
    OutsTo l tagged vid w (.returned (.tuple #[.slice A n c, .int .i64 0])) w' := by
  have hq : outR l tagged vid = r := by unfold outR; rw [if_pos he, hr]
  subst hn
  refine ⟨A, c, ?_, ?_, hb⟩
  · rw [hq, he]; rfl
  · rw [hq]; exact ho

set_option maxHeartbeats 1000000 in
theorem frame_Out_bad {l : List Nat} (hl : ∀ x ∈ l, x < 256) {v : Value} {w : World} {B : Nat} (hv : Sl w B 1 v l.length (bv l)) (tagged : Bool) (vid : Int) (he : errN l ≠ 0) :
    Calls Try.prog 26 #[v, .bool tagged, .int .i64 vid] w (OutsTo l tagged vid w) := by
  have hlook : lookV l = .tuple #[.bool false, .int .i64 (errN l : Nat)] := by unfold lookV; rw [if_neg he]
  have ho := oErr_bad he tagged vid
  obtain ⟨E, hE⟩ : ∃ E, E = errN l := ⟨_, rfl⟩
  rw [← hE] at he hlook ho
  have hne : ((E : Int) != 0) = true := by simp; omega
  have HE := Lib.hid he
  have HO := Lib.hid ho
  have HLK := Lib.hid hlook
  clear hE hlook he ho
  go_enter Try.func26, Try.ntmps26
  go_wp2_with fail
  refine (frame_look hl hv).mono ?_
  rw [HLK.out]
  rintro e w1 ⟨rfl, n1, rfl⟩
  go_wp2
  go_ret2
  exact OutsTo.err HO.out HE.out (below_drewN (Below.refl _ _) _)
set_option maxHeartbeats 1000000 in
theorem frame_Out_vid {l : List Nat} (hl : ∀ x ∈ l, x < 256) {v : Value} {w : World} {B : Nat} (hv : Sl w B 1 v l.length (bv l)) (vid : Int) (he : errN l = 0) (hvid : vid < 1 ∨ 4094 < vid) :
    Calls Try.prog 26 #[v, .bool true, .int .i64 vid] w (OutsTo l true vid w) := by
  have hlook : lookV l = .tuple #[.bool (tagB l), .int .i64 0] := by unfold lookV; rw [if_pos he, he]; rfl
  have ho := oErr_vid he hvid
  have HO := Lib.hid ho
  have HLK := Lib.hid hlook
  clear hlook he ho
  obtain ⟨t, ht⟩ : ∃ t, t = tagB l := ⟨_, rfl⟩
  rw [← ht] at HLK
  have HT := Lib.hid ht
  clear ht
  rcases hvid with h | h
  all_goals
    go_enter Try.func26, Try.ntmps26
    go_wp2_with fail
    refine (frame_look hl hv).mono ?_
    rw [HLK.out]
    rintro e w1 ⟨rfl, n1, rfl⟩
    go_wp2
    go_ret2
    exact OutsTo.err (E := 6) HO.out (by decide) (below_drewN (Below.refl _ _) _)
end Go.Proofs.Ythamjkccljhhcaa
