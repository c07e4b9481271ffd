/-
  What layer 7's told says; an argument of an int and a number of 64 bits. No statement is proved here.
-/
import Derived.Test.YthamjkccljhhcabTurnD
import Derived.Test.YthamjkccljhhcabOpen
set_option linter.unusedVariables false
namespace Go.Proofs.Ythamjkccljhhcab
open Go.ChangeShapes Go.WideShapes Go.RowKit Go.Deep

theorem Ints.at_ {l : List Int} {n : Nat} {w : World} {e : Ending} {w' : World} (h : Ints l w e w') (hn : l.length = n) :
    ∃ A cap, e = .returned (.slice A n cap) ∧ Sl w' w'.heap.size 1 (.slice A n cap) n (kv .i64 l) ∧ Below w.heap.size w w' := by
  subst hn; exact h
theorem turnsL_length {m c : Int} (g : Int → Int) : (turnsL m c g).length = if m < 1 ∨ c < 1 then 0 else min c.toNat 100000 := by
  unfold turnsL; split <;> simp
set_option maxHeartbeats 1600000 in
theorem told07 (w : World) :
    Calls Try.prog 27 #[] w fun e w' => e = .returned (.bool true) ∧ Below w.heap.size w w' := by
  have h1 := fun W => turn_Who (-1) 3 (by omega) W
  rw [show whoN (-1) 3 = 0 from by decide] at h1
  have h2 := fun W => turn_Who 5 0 (by omega) W
  rw [show whoN 5 0 = -1 from by decide] at h2
  have h3 := fun W => turn_Round 3 4 (by omega) (by omega) W
  rw [show turnsL 3 4 gRound = [0, 1, 2, 0] from by decide] at h3
  have h4 := fun W => turn_Mixed 3 5 1 (by omega) (by omega) W
  have h5 := turnsL_length (m := 3) (c := 5) (gMixed 1)
  rw [if_neg (by omega), show min (5 : Int).toNat 100000 = 5 from rfl] at h5
  generalize turnsL 3 5 (gMixed 1) = L at *
  have H1 := Lib.hid h1
  have H2 := Lib.hid h2
  have H3 := Lib.hid h3
  have H4 := Lib.hid h4
  have H5 := Lib.hid h5
  clear h1 h2 h3 h4 h5
  go_enter Try.func27, Try.ntmps27
  go_wp2_with fail
  refine (H1.out _).mono ?_
  rintro e w1 ⟨rfl, rfl⟩
  go_wp2_with fail
  refine (H3.out _).mono ?_
  intro e w1 hh
  obtain ⟨A, cap, rfl, hs, hb⟩ := hh.at_ (n := 4) rfl
  have S1 := Lib.hid hs
  have B1 := Lib.hid hb
  clear hs hb hh
  go_wp2_with fail
  refine (law3_IntsEq (S1.out.alloc (Nat.le_refl _) _) (Sl.lit w1 #[.int .i64 0, .int .i64 1, .int .i64 2, .int .i64 0] _ 4 rfl (by decide))).mono ?_
  rintro e w2 ⟨rfl, n2, rfl⟩
  have B2 := Lib.hid (below_drewN (B1.out.alloc B1.out.size (.cells #[.int .i64 0, .int .i64 1, .int .i64 2, .int .i64 0] 3)) n2)
  clear S1
  go_wp2_with fail
  refine (H2.out _).mono ?_
  rintro e w1 ⟨rfl, rfl⟩
  go_wp2_with fail
  refine (H4.out _).mono ?_
  intro e w3 hh
  obtain ⟨A, cap, rfl, hs, hb⟩ := hh.at_ (n := 5) H5.out
  have B3 := Lib.hid (B2.out.trans (hb.mono B2.out.size))
  clear hs hb hh
  go_wp2
  go_ret
  exact ⟨by simp, B3.out⟩
section
variable {H : Type} {enc : TypeId × Value → H} {P : Program} {w : World} {base : Nat} {spare : Nat → Bool} {held : Bool}
/-- An int and a number of 64 bits, by value. -/
theorem open_iu {r : Reach} {b0 : Nat} {t : TypeId} {f0 f1 : Field} {v : Value} {d : DataW H} {p : List MemPlace} (hs : P.underlying t = some (.struct #[f0, f1])) (hone : oneCellFields P #[f0, f1] = true) (hC : P.cellsOf t = 2) (h0 : P.underlying f0.type = some (.int .i64)) (h1 : P.underlying f1.type = some (.int .u64))
    (hv : Value.okWide P w r b0 t v) (h : DataW.Trod enc P w base spare held t v d p) :
    ∃ (a : Int) (b : Nat), v = .agg #[.int .i64 a, .int .u64 (b : Int)] ∧ (-9223372036854775808 ≤ a ∧ a ≤ 9223372036854775807) ∧ b < 18446744073709551616 := by
  obtain ⟨l, rfl, hl, hf⟩ := open_fields hs hone hC hv h
  obtain ⟨u0, e0, g0⟩ := hf 0 f0 rfl
  obtain ⟨u1, e1, g1⟩ := hf 1 f1 rfl
  obtain ⟨a, rfl, ha⟩ := g0.i64 h0
  obtain ⟨b, rfl, hb⟩ := g1.u64 h1
  match l, hl with
  | [x, y], _ =>
    simp at e0 e1
    subst e0 e1
    exact ⟨a, b, rfl, ha, hb⟩
/-- A slice of ints that came in. -/
theorem open_i64s {r : Reach} {b0 : Nat} {t e : TypeId} {v : Value} {d : DataW H} {ps : List MemPlace} (ht : P.underlying t = some (.slice e)) (he : P.underlying e = some (.int .i64)) (hc : P.cellsOf e = 1)
    (hval : Value.okWide P w r b0 t v) (hd : DataW.Trod enc P w 0 (fun _ => true) held t v d ps) :
    ∃ l : List Int, Sl w w.heap.size 1 v l.length (kv .i64 l) ∧ ∀ x ∈ l, -9223372036854775808 ≤ x ∧ x ≤ 9223372036854775807 := by
  obtain ⟨l, h, hl⟩ := open_kinds ht he hc hval hd
  exact ⟨l, h, fun x hx => Go.bounds_i64 (hl x hx)⟩
end
end Go.Proofs.Ythamjkccljhhcab
