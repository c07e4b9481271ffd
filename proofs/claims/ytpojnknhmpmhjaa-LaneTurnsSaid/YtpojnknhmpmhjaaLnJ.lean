/-
  Which number is taken; layer 15's told. No statement is proved here.
-/
import Derived.Test.YtpojnknhmpmhjaaLnI
set_option linter.unusedVariables false
namespace Go.Proofs.Ytpojnknhmpmhjaa
open Go.RowKit

section
variable {w w' : World} {wb lo b lb g cap n : Nat} {v : Value} {rbs : Nat → Nat} {G0 : Nat → RgS} {c : Nat} {m0 : MemS} {p t : Nat → Nat} {q : Nat → List Int} {ab pb kk jj : Nat} {a' : AcS} {G' : Nat → RgS} {m' : MemS} {t' : Nat → Nat} {q' : Nat → List Int} {c' : Nat}
theorem Taken.first (h : Taken w w' wb lo b lb g cap n v rbs G0 c m0 p t q ab pb kk jj a' G' m' t' q' c') {j : Nat} (hj : j < n) (he : ∀ i, i < j → q ((c + i) % n) = []) {x : Int} {r : List Int} (hq : q ((c + j) % n) = x :: r) :
    kk = (c + j) % n ∧ a'.ok = true ∧ a'.num = x ∧ c' = (kk + 1) % n ∧ q' = upd q kk r ∧ t' = upd t kk (t kk + 1) := by
  rcases h.res with ⟨j', x', r', hj', hk, he', hq', ho, hx, hc, ht, hqq⟩ | ⟨_, he', _⟩
  · rcases Nat.lt_trichotomy j' j with e | e | e
    · have := he j' e
      rw [← hk, hq'] at this
      cases this
    · subst e
      rw [← hk, hq'] at hq
      cases hq
      exact ⟨hk, ho, hx, hc, hqq, ht⟩
    · have := he' j e
      rw [hq] at this
      cases this
  · have := he' j hj
    rw [hq] at this
    cases this
theorem Taken.none (h : Taken w w' wb lo b lb g cap n v rbs G0 c m0 p t q ab pb kk jj a' G' m' t' q' c') (he : ∀ i, i < n → q ((c + i) % n) = []) : a'.ok = false ∧ c' = c ∧ q' = q ∧ t' = t := by
  rcases h.res with ⟨j', x', r', hj', hk, he', hq', ho, hx, hc, ht, hqq⟩ | ⟨ho, _, hc, ht, hqq⟩
  · have := he j' hj'
    rw [← hk, hq'] at this
    cases this
  · exact ⟨ho, hc, hqq, ht⟩
/-- A taking's act stays while others take, or are put. -/
theorem Taken.kept {w2 : World} {D : Nat → Prop} (h : Taken w w' wb lo b lb g cap n v rbs G0 c m0 p t q ab pb kk jj a' G' m' t' q' c') (ht : Tch D w' w2) (hD : ∀ x, D x → TkD lo n lb rbs x) : LActAt w2 ab .none (some ⟨pb, 0, .none⟩) kk jj ∧ ActAt w2 (rbs kk) pb a' := by
  have hlo := h.at_.lo3
  have hw0 := h.at_.gt 0 h.at_.lane.one
  have hr0 := h.at_.lane.rlt 0 h.at_.lane.one
  have hgl := h.at_.lane.glt
  have hk : ∀ x, lb < x → ¬ D x := fun x hx hd => by
    rcases hD x hd with e | ⟨i, hi, e⟩ | e
    · omega
    · have := h.at_.lane.rlt i hi; omega
    · omega
  exact ⟨h.act.tch ht (hk _ h.lab.1), h.ract.tch ht (hk _ h.lab.2)⟩
theorem TkD.ge (hw : WAt w' wb lo b lb g cap n v rbs G0 c true ∨ WAt w' wb lo b lb g cap n v rbs G0 c false) {x : Nat} (h : TkD lo n lb rbs x) : lo ≤ x := by
  have key : lo + 3 ≤ wb ∧ (∀ i, i < n → wb < rbs i) ∧ (∀ i, i < n → rbs i < g) ∧ g < lb ∧ 1 ≤ n := by
    rcases hw with hw | hw <;> exact ⟨hw.lo3, hw.gt, hw.lane.rlt, hw.lane.glt, hw.lane.one⟩
  obtain ⟨k1, k2, k3, k4, k5⟩ := key
  rcases h with e | ⟨i, hi, e⟩ | e
  · omega
  · have := k2 i hi; omega
  · have := k2 0 k5; have := k3 0 k5; omega
end
theorem law15_putOk {w : World} {wb lo b lb gg cap n c i : Nat} {v : Value} {rbs : Nat → Nat} {G : Nat → RgS} {tk : Bool} {m : MemS} {p t : Nat → Nat} {q : Nat → List Int} (h : WAt w wb lo b lb gg cap n v rbs G c tk) (hq : RgsQ n G m p t q) (hi : i < n) (hpu : (G i).pu = false) (htm : m.t ≤ 4611686018427380000) (hf : p i + 1 ≤ 1000000) (x : Int) (hl : (q i).length < (G i).sz) :
    Calls Try.prog 40 #[.pointer (some ⟨wb, 0, none⟩), .int .i64 (i : Int), .int .u64 x] w fun e w' => ∃ G' m' p', e = .returned (.bool true) ∧ WAt w' wb lo b lb gg cap n v rbs G' c tk ∧ RgsQ n G' m' p' t (upd q i (q i ++ [x])) ∧ (∀ j, p' j ≤ p j + 1) ∧ Alike n G G' ∧ (m.t ≤ m'.t ∧ m'.t ≤ m.t + 4) ∧ Tch (MemD lo (rbs i)) w w' := by
  have := law15_put h hq hi hpu htm hf x
  rw [decide_eq_true hl] at this
  refine this.mono fun e w' ⟨G', m', p', he, hd⟩ => ⟨G', m', p', he, hd.at_, ?_, hd.pn, hd.alike, hd.tm, hd.tch⟩
  have := hd.que
  rwa [if_pos hl] at this
set_option maxRecDepth 20000 in
set_option maxHeartbeats 3200000 in
theorem told15 (w : World) : Calls Try.prog 33 #[] w (Says (.bool true) w) := by
  have HB := Lib.hid (law15_begin (n := 3) (sz := 4) (by omega) (by omega) (by omega) (by omega) w)
  go_enter Try.func33, Try.ntmps33
  go_wp2_with fail
  refine (HB.out).mono ?_
  rintro e w1 ⟨wb, b, lb, g, cap, v, rbs, G0, m0, rfl, hw0, hq0, hm0, hC, hG, hb0⟩
  have hs0 : ∀ i, i < 3 → (G0 i).sz = 4 ∧ (G0 i).pu = false ∧ (G0 i).po = false := hG
  have hp0 : ∀ j, (fun _ : Nat => 0) j ≤ 0 := fun j => Nat.le_refl _
  have hz0 : 0 ≤ m0.t ∧ m0.t ≤ 6 := by rw [hm0]; decide
  have HW0 := Lib.hid hw0
  have HQ0 := Lib.hid hq0
  have HS0 := Lib.hid hs0
  have HZ0 := Lib.hid hz0
  have HP0 := Lib.hid hp0
  have HB0 := Lib.hid hb0
  clear hw0 hq0 hm0 hC hG hb0 hs0 hp0 hz0 HB
  have HC1 := Lib.hid (law15_putOk HW0.out HQ0.out (i := 0) (by omega) (HS0.out _ (by omega)).2.1 (by have := HZ0.out; omega) (by have := HP0.out 0; omega) 1 (by rw [(HS0.out _ (by omega)).1]; decide))
  go_wp2_with fail
  refine (HC1.out).mono ?_
  rintro e w2 ⟨G1, m1, p1, rfl, hw, hqn, hpn, hal, htm, htt⟩
  have HW1 := Lib.hid hw
  have HQ1 := Lib.hid hqn
  have HS1 : Hid (∀ i, i < 3 → (G1 i).sz = 4 ∧ (G1 i).pu = false ∧ (G1 i).po = false) := fun i hi => ⟨(hal.sz i hi).trans (HS0.out i hi).1, (hal.pu i hi).trans (HS0.out i hi).2.1, (hal.po i hi).trans (HS0.out i hi).2.2⟩
  have HZ1 := Lib.hid (show 0 ≤ m1.t ∧ m1.t ≤ 10 by have := HZ0.out; omega)
  have HP1 : Hid (∀ j, p1 j ≤ 1) := fun j => by have := hpn j; have := HP0.out j; omega
  have HB1 : Hid (Below w.heap.size w w2) := htt.below HB0.out (fun x hx => TkD.ge (.inr HW1.out) (by rcases hx with h | h; exact .inl h; exact .inr (.inl ⟨0, by omega, h⟩))) HB0.out.size
  clear hw hqn hpn hal htm htt HC1
  have HC2 := Lib.hid (law15_putOk HW1.out HQ1.out (i := 0) (by omega) (HS1.out _ (by omega)).2.1 (by have := HZ1.out; omega) (by have := HP1.out 0; omega) 2 (by rw [(HS1.out _ (by omega)).1]; decide))
  go_wp2_with fail
  refine (HC2.out).mono ?_
  rintro e w3 ⟨G2, m2, p2, rfl, hw, hqn, hpn, hal, htm, htt⟩
  have HW2 := Lib.hid hw
  have HQ2 := Lib.hid hqn
  have HS2 : Hid (∀ i, i < 3 → (G2 i).sz = 4 ∧ (G2 i).pu = false ∧ (G2 i).po = false) := fun i hi => ⟨(hal.sz i hi).trans (HS1.out i hi).1, (hal.pu i hi).trans (HS1.out i hi).2.1, (hal.po i hi).trans (HS1.out i hi).2.2⟩
  have HZ2 := Lib.hid (show 0 ≤ m2.t ∧ m2.t ≤ 14 by have := HZ1.out; omega)
  have HP2 : Hid (∀ j, p2 j ≤ 2) := fun j => by have := hpn j; have := HP1.out j; omega
  have HB2 : Hid (Below w.heap.size w w3) := htt.below HB1.out (fun x hx => TkD.ge (.inr HW2.out) (by rcases hx with h | h; exact .inl h; exact .inr (.inl ⟨0, by omega, h⟩))) HB1.out.size
  clear hw hqn hpn hal htm htt HC2
  have HC3 := Lib.hid (law15_putOk HW2.out HQ2.out (i := 2) (by omega) (HS2.out _ (by omega)).2.1 (by have := HZ2.out; omega) (by have := HP2.out 2; omega) 3 (by rw [(HS2.out _ (by omega)).1]; decide))
  go_wp2_with fail
  refine (HC3.out).mono ?_
  rintro e w4 ⟨G3, m3, p3, rfl, hw, hqn, hpn, hal, htm, htt⟩
  have HW3 := Lib.hid hw
  have HQ3 := Lib.hid hqn
  have HS3 : Hid (∀ i, i < 3 → (G3 i).sz = 4 ∧ (G3 i).pu = false ∧ (G3 i).po = false) := fun i hi => ⟨(hal.sz i hi).trans (HS2.out i hi).1, (hal.pu i hi).trans (HS2.out i hi).2.1, (hal.po i hi).trans (HS2.out i hi).2.2⟩
  have HZ3 := Lib.hid (show 0 ≤ m3.t ∧ m3.t ≤ 18 by have := HZ2.out; omega)
  have HP3 : Hid (∀ j, p3 j ≤ 3) := fun j => by have := hpn j; have := HP2.out j; omega
  have HB3 : Hid (Below w.heap.size w w4) := htt.below HB2.out (fun x hx => TkD.ge (.inr HW3.out) (by rcases hx with h | h; exact .inl h; exact .inr (.inl ⟨2, by omega, h⟩))) HB2.out.size
  clear hw hqn hpn hal htm htt HC3
  have q2 : w4.cell? ⟨wb, 2, none⟩ = some (.pointer (some ⟨lb, 0, none⟩)) := HW3.out.row.cell (by omega)
  have HLN := Lib.hid (lane_Len HW3.out.lane HW3.out.rings HQ3.out)
  rw [show sumL (upd (upd (upd (fun _ => []) 0 ((fun _ => []) 0 ++ [1])) 0 ((upd (fun _ => []) 0 ((fun _ => []) 0 ++ [1])) 0 ++ [2])) 2 ((upd (upd (fun _ => []) 0 ((fun _ => []) 0 ++ [1])) 0 ((upd (fun _ => []) 0 ((fun _ => []) 0 ++ [1])) 0 ++ [2])) 2 ++ [3])) 3 = 3 from by decide] at HLN
  go_wp2_with fail
  refine (HLN.out).mono ?_
  rintro e w5 ⟨rfl, z, rfl⟩
  have hbz : Below w4.heap.size w4 (w4.drewN z) := below_drewN (Below.refl _ _) z
  obtain ⟨q3, hq3⟩ : ∃ q3 : Nat → List Int, q3 = (upd (upd (upd (fun _ => []) 0 ((fun _ => []) 0 ++ [1])) 0 ((upd (fun _ => []) 0 ((fun _ => []) 0 ++ [1])) 0 ++ [2])) 2 ((upd (upd (fun _ => []) 0 ((fun _ => []) 0 ++ [1])) 0 ((upd (fun _ => []) 0 ((fun _ => []) 0 ++ [1])) 0 ++ [2])) 2 ++ [3])) := ⟨_, rfl⟩
  have hq30 : q3 0 = [1, 2] := by rw [hq3]; decide
  have hq31 : q3 1 = [] := by rw [hq3]; decide
  have hq32 : q3 2 = [3] := by rw [hq3]; decide
  have HQ3b : Hid (RgsQ 3 G3 m3 p3 (fun _ => 0) q3) := by rw [hq3]; exact HQ3.out
  clear HQ3
  have HW4 : Hid (WAt (w4.drewN z) wb w.heap.size b lb g cap 3 v rbs G3 0 false) := HW3.out.goL (HW3.out.lane.below hbz) (HW3.out.rings.below hbz) (D := fun _ => False) (Tch.of_below hbz) (fun x h => h.elim)
  have HB4 : Hid (Below w.heap.size w (w4.drewN z)) := HB3.out.trans (hbz.mono HB3.out.size)
  obtain ⟨w5, hw5⟩ : ∃ w5, w5 = w4.drewN z := ⟨_, rfl⟩
  rw [← hw5] at HW4 HB4 ⊢
  clear hw5 hbz q2 HLN hq3
  have HT1 := Lib.hid (law15_take HW4.out HQ3b.out (fun i hi => (HS3.out i hi).2.2) (by have := HZ3.out; omega))
  go_wp2_with fail
  refine (HT1.out).mono ?_
  rintro e w6 ⟨ab1, pb1, kk1, jj1, a1, H1, n1, t1, r1, c1, rfl, htd⟩
  obtain ⟨e1, e2, e3, e4, e5, e6⟩ := htd.first (j := 0) (by omega) (fun i hi => by omega) (x := 1) (r := [2]) hq30
  have e1 : kk1 = 0 := e1
  subst e1
  have e4 : c1 = 1 := e4
  subst e4
  have hr10 : r1 0 = [2] := by rw [e5]; rfl
  have hr11 : r1 1 = [] := by rw [e5]; exact hq31
  have hr12 : r1 2 = [3] := by rw [e5]; exact hq32
  have HW5 := Lib.hid htd.at_
  have HQ5 := Lib.hid htd.que
  have HS5 : Hid (∀ i, i < 3 → (H1 i).sz = 4 ∧ (H1 i).pu = false ∧ (H1 i).po = false) := fun i hi => ⟨(htd.sz i hi).trans (HS3.out i hi).1, (htd.pu i hi).trans (HS3.out i hi).2.1, htd.po i hi⟩
  have HZ5 := Lib.hid (show 0 ≤ n1.t ∧ n1.t ≤ 30 by have := HZ3.out; have := htd.tm; omega)
  have HB5 : Hid (Below w.heap.size w w6) := htd.tch.below HB4.out (fun x hx => TkD.ge (.inr htd.at_) hx) HB4.out.size
  have HTD1 := Lib.hid htd
  have HO1 := Lib.hid e2
  have HN1 := Lib.hid e3
  clear htd e2 e5 e6 e3 HT1
  have HT2 := Lib.hid (law15_take HW5.out HQ5.out (fun i hi => (HS5.out i hi).2.2) (by have := HZ5.out; omega))
  go_wp2_with fail
  refine (HT2.out).mono ?_
  rintro e w7 ⟨ab2, pb2, kk2, jj2, a2, H2, n2, t2, r2, c2, rfl, htd⟩
  obtain ⟨e1, e2, e3, e4, e5, e6⟩ := htd.first (j := 1) (by omega) (fun i hi => by (have e : i = 0 := (by omega)); (subst e); exact hr11) (x := 3) (r := []) hr12
  have e1 : kk2 = 2 := e1
  subst e1
  have e4 : c2 = 0 := e4
  subst e4
  have hr20 : r2 0 = [2] := by rw [e5]; exact hr10
  have hr21 : r2 1 = [] := by rw [e5]; exact hr11
  have hr22 : r2 2 = [] := by rw [e5]; rfl
  have HW6 := Lib.hid htd.at_
  have HQ6 := Lib.hid htd.que
  have HS6 : Hid (∀ i, i < 3 → (H2 i).sz = 4 ∧ (H2 i).pu = false ∧ (H2 i).po = false) := fun i hi => ⟨(htd.sz i hi).trans (HS5.out i hi).1, (htd.pu i hi).trans (HS5.out i hi).2.1, htd.po i hi⟩
  have HZ6 := Lib.hid (show 0 ≤ n2.t ∧ n2.t ≤ 42 by have := HZ5.out; have := htd.tm; omega)
  have HB6 : Hid (Below w.heap.size w w7) := htd.tch.below HB5.out (fun x hx => TkD.ge (.inr htd.at_) hx) HB5.out.size
  have HTD2 := Lib.hid htd
  have HO2 := Lib.hid e2
  have HN2 := Lib.hid e3
  clear htd e2 e5 e6 e3 HT2
  have HT3 := Lib.hid (law15_take HW6.out HQ6.out (fun i hi => (HS6.out i hi).2.2) (by have := HZ6.out; omega))
  go_wp2_with fail
  refine (HT3.out).mono ?_
  rintro e w8 ⟨ab3, pb3, kk3, jj3, a3, H3, n3, t3, r3, c3, rfl, htd⟩
  obtain ⟨e1, e2, e3, e4, e5, e6⟩ := htd.first (j := 0) (by omega) (fun i hi => by omega) (x := 2) (r := []) hr20
  have e1 : kk3 = 0 := e1
  subst e1
  have e4 : c3 = 1 := e4
  subst e4
  have hr30 : r3 0 = [] := by rw [e5]; rfl
  have hr31 : r3 1 = [] := by rw [e5]; exact hr21
  have hr32 : r3 2 = [] := by rw [e5]; exact hr22
  have HW7 := Lib.hid htd.at_
  have HQ7 := Lib.hid htd.que
  have HS7 : Hid (∀ i, i < 3 → (H3 i).sz = 4 ∧ (H3 i).pu = false ∧ (H3 i).po = false) := fun i hi => ⟨(htd.sz i hi).trans (HS6.out i hi).1, (htd.pu i hi).trans (HS6.out i hi).2.1, htd.po i hi⟩
  have HZ7 := Lib.hid (show 0 ≤ n3.t ∧ n3.t ≤ 54 by have := HZ6.out; have := htd.tm; omega)
  have HB7 : Hid (Below w.heap.size w w8) := htd.tch.below HB6.out (fun x hx => TkD.ge (.inr htd.at_) hx) HB6.out.size
  have HTD3 := Lib.hid htd
  have HO3 := Lib.hid e2
  have HN3 := Lib.hid e3
  clear htd e2 e5 e6 e3 HT3
  have HT4 := Lib.hid (law15_take HW7.out HQ7.out (fun i hi => (HS7.out i hi).2.2) (by have := HZ7.out; omega))
  go_wp2_with fail
  refine (HT4.out).mono ?_
  rintro e w9 ⟨ab4, pb4, kk4, jj4, a4, H4, n4, t4, r4, c4, rfl, htd⟩
  obtain ⟨e2, e4, e5, e6⟩ := htd.none (fun i hi => by
    have : i = 0 ∨ i = 1 ∨ i = 2 := by omega
    rcases this with rfl | rfl | rfl
    · exact hr31
    · exact hr32
    · exact hr30)
  have HW8 := Lib.hid htd.at_
  have HQ8 := Lib.hid htd.que
  have HS8 : Hid (∀ i, i < 3 → (H4 i).sz = 4 ∧ (H4 i).pu = false ∧ (H4 i).po = false) := fun i hi => ⟨(htd.sz i hi).trans (HS7.out i hi).1, (htd.pu i hi).trans (HS7.out i hi).2.1, htd.po i hi⟩
  have HZ8 := Lib.hid (show 0 ≤ n4.t ∧ n4.t ≤ 66 by have := HZ7.out; have := htd.tm; omega)
  have HB8 : Hid (Below w.heap.size w w9) := htd.tch.below HB7.out (fun x hx => TkD.ge (.inr htd.at_) hx) HB7.out.size
  have HTD4 := Lib.hid htd
  have HO4 := Lib.hid e2
  have HM4 := Lib.hid (show 0 < a4.mark by rw [htd.mark]; have := htd.tm.1; have := HZ7.out; omega)
  clear htd e2 e5 e6 e4 HT4
  obtain ⟨l1, r1'⟩ := HTD1.out.kept (D := TkD w.heap.size 3 lb rbs) (((HTD2.out.tch).trans (HTD3.out.tch)).trans (HTD4.out.tch)) (fun x h => h)
  have HL1 := Lib.hid l1
  have HR1 := Lib.hid r1'
  clear l1 r1'
  obtain ⟨l2, r2'⟩ := HTD2.out.kept (D := TkD w.heap.size 3 lb rbs) ((HTD3.out.tch).trans (HTD4.out.tch)) (fun x h => h)
  have HL2 := Lib.hid l2
  have HR2 := Lib.hid r2'
  clear l2 r2'
  obtain ⟨l3, r3'⟩ := HTD3.out.kept (D := TkD w.heap.size 3 lb rbs) (HTD4.out.tch) (fun x h => h)
  have HL3 := Lib.hid l3
  have HR3 := Lib.hid r3'
  clear l3 r3'
  obtain ⟨l4, r4'⟩ := HTD4.out.kept (D := TkD w.heap.size 3 lb rbs) (Tch.refl _ _) (fun x h => h)
  have HL4 := Lib.hid l4
  have HR4 := Lib.hid r4'
  clear l4 r4'
  have HV1 := Lib.hid (lact_Value HL1.out HR1.out)
  rw [HO1.out] at HV1
  simp only [if_true] at HV1
  rw [HN1.out] at HV1
  go_wp2_with fail
  refine (HV1.out).mono ?_
  rintro e wz ⟨rfl, rfl⟩
  clear HV1
  have HV2 := Lib.hid (lact_From HL1.out HR1.out)
  rw [HO1.out] at HV2
  simp only [if_true] at HV2
  go_wp2_with fail
  refine (HV2.out).mono ?_
  rintro e wz ⟨rfl, rfl⟩
  clear HV2
  have HV3 := Lib.hid (lact_Value HL2.out HR2.out)
  rw [HO2.out] at HV3
  simp only [if_true] at HV3
  rw [HN2.out] at HV3
  go_wp2_with fail
  refine (HV3.out).mono ?_
  rintro e wz ⟨rfl, rfl⟩
  clear HV3
  have HV4 := Lib.hid (lact_From HL2.out HR2.out)
  rw [HO2.out] at HV4
  simp only [if_true] at HV4
  go_wp2_with fail
  refine (HV4.out).mono ?_
  rintro e wz ⟨rfl, rfl⟩
  clear HV4
  have HV5 := Lib.hid (lact_Value HL3.out HR3.out)
  rw [HO3.out] at HV5
  simp only [if_true] at HV5
  rw [HN3.out] at HV5
  go_wp2_with fail
  refine (HV5.out).mono ?_
  rintro e wz ⟨rfl, rfl⟩
  clear HV5
  have HV6 := Lib.hid (lact_Ok HL4.out HR4.out)
  rw [HO4.out] at HV6
  go_wp2_with fail
  refine (HV6.out).mono ?_
  rintro e wz ⟨rfl, rfl⟩
  clear HV6
  have HV7 := Lib.hid (lact_From HL4.out HR4.out)
  rw [HO4.out] at HV7
  simp only [Bool.false_eq_true, if_false] at HV7
  go_wp2_with fail
  refine (HV7.out).mono ?_
  rintro e wz ⟨rfl, rfl⟩
  clear HV7
  have HV8 := Lib.hid (lact_Mark HL4.out HR4.out)
  have hmk : decide (a4.mark > 0) = true := by simpa using HM4.out
  have hmk' : decide (0 < a4.mark) = true := hmk
  go_wp2_with fail
  refine (HV8.out).mono ?_
  rintro e wz ⟨rfl, rfl⟩
  go_wp2
  go_ret
  exact ⟨by first | rfl | (simp; done) | (simp [hmk']; done), HB8.out⟩
end Go.Proofs.Ytpojnknhmpmhjaa
