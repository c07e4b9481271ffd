/-
  What a step of an act makes of the ring: its looks and its moves. No statement is proved here.
-/
import Derived.Test.YtpojnknhmpmhjaaRgC
import Derived.Deep.RegionHeld3
set_option linter.unusedVariables false
namespace Go.Proofs.Ytpojnknhmpmhjaa
open Go.RowKit

theorem Touch.cell {lo : Nat} {w w' : World} (h : Touch lo w w') {p : Addr} (hp : p.block < w.heap.size) (hl : lo + 3 ≤ p.block) : w'.cell? p = w.cell? p :=
  World.cell?_of_block (w := w) (h.block p.block hp (.inr hl))
theorem Touch.drew {lo : Nat} {w w' : World} (h : Touch lo w.drew w') : Touch lo w w' := ⟨h.os, h.tape, h.output, h.size, h.block⟩
theorem kpR2 {w w' : World} {p0 p1 : Addr} {v0 v1 : Value} {ab rb : Nat} (h : w.cell? p0 = some v0 ∧ w.cell? p1 = some v1) (hk : ∀ p : Addr, p.block = ab ∨ p.block = rb → w'.cell? p = w.cell? p) (e0 : p0.block = ab ∨ p0.block = rb) (e1 : p1.block = ab ∨ p1.block = rb) : w'.cell? p0 = some v0 ∧ w'.cell? p1 = some v1 := by
  obtain ⟨q0, q1⟩ := h
  exact ⟨(hk p0 e0).trans q0, (hk p1 e1).trans q1⟩
theorem kpR3 {w w' : World} {p0 p1 p2 : Addr} {v0 v1 v2 : Value} {ab rb : Nat} (h : w.cell? p0 = some v0 ∧ w.cell? p1 = some v1 ∧ w.cell? p2 = some v2) (hk : ∀ p : Addr, p.block = ab ∨ p.block = rb → w'.cell? p = w.cell? p) (e0 : p0.block = ab ∨ p0.block = rb) (e1 : p1.block = ab ∨ p1.block = rb) (e2 : p2.block = ab ∨ p2.block = rb) : w'.cell? p0 = some v0 ∧ w'.cell? p1 = some v1 ∧ w'.cell? p2 = some v2 := by
  obtain ⟨q0, q1, q2⟩ := h
  exact ⟨(hk p0 e0).trans q0, (hk p1 e1).trans q1, (hk p2 e2).trans q2⟩
theorem kpR5 {w w' : World} {p0 p1 p2 p3 p4 : Addr} {v0 v1 v2 v3 v4 : Value} {ab rb : Nat} (h : w.cell? p0 = some v0 ∧ w.cell? p1 = some v1 ∧ w.cell? p2 = some v2 ∧ w.cell? p3 = some v3 ∧ w.cell? p4 = some v4) (hk : ∀ p : Addr, p.block = ab ∨ p.block = rb → w'.cell? p = w.cell? p) (e0 : p0.block = ab ∨ p0.block = rb) (e1 : p1.block = ab ∨ p1.block = rb) (e2 : p2.block = ab ∨ p2.block = rb) (e3 : p3.block = ab ∨ p3.block = rb) (e4 : p4.block = ab ∨ p4.block = rb) : w'.cell? p0 = some v0 ∧ w'.cell? p1 = some v1 ∧ w'.cell? p2 = some v2 ∧ w'.cell? p3 = some v3 ∧ w'.cell? p4 = some v4 := by
  obtain ⟨q0, q1, q2, q3, q4⟩ := h
  exact ⟨(hk p0 e0).trans q0, (hk p1 e1).trans q1, (hk p2 e2).trans q2, (hk p3 e3).trans q3, (hk p4 e4).trans q4⟩

set_option maxRecDepth 20000 in
set_option maxHeartbeats 3200000 in
theorem act_look {w : World} {lo b rb ab : Nat} {g : RgS} {a : AcS} (hr : RingAt w lo b rb g) (ha : ActAt w rb ab a) (h1 : lo + 3 ≤ ab) (h2 : ab ≠ rb) (ht : g.m.t ≤ 4611686018427387900) (hs : a.stage = 2) :
    Calls Try.prog 53 #[.pointer (some ⟨ab, 0, none⟩)] w (Did lo b rb ab (stepR g a).1 (stepR g a).2 (.tuple #[]) w) := by
  have hrd : RingAt w.drew lo b rb g := hr.below (Below.drew (Below.refl _ _))
  have had : ActAt w.drew rb ab a := ha.below (Below.drew (Below.refl _ _))
  obtain ⟨s0, s1, s2, s3, s4, s5, s6⟩ := hr.at_
  obtain ⟨r0, r1, r2, r3, r4, r5, r6, r7⟩ := ha.at_
  have hlb : lo + 3 ≤ rb := hr.out
  have hba : g.ba ≤ 1048576 := by have := hr.fits.cells; have := hr.fits.mem; omega
  have hb0 : (0 : Int) ≤ (g.ba : Int) := Int.natCast_nonneg _
  have hlt1 : ab < w.drew.heap.size := had.lt
  have hlt2 : rb < w.drew.heap.size := hrd.lt
  have hb1 : wrap64 ((g.ba : Int) + 1) = (g.ba : Int) + 1 := IntWalk.wrap64_in _ (by omega)
  have hb2 : wrap64 ((g.ba : Int) + 0) = (g.ba : Int) := by rw [Int.add_zero]; exact IntWalk.wrap64_in _ (by omega)
  have hb5 : IntKind.i64.wrap (g.ba : Int) = (g.ba : Int) := IntWalk.i64_in _ (by omega)
  have hb3 : IntKind.i64.wrap ((g.ba : Int) + 1) = (g.ba : Int) + 1 := IntWalk.i64_in _ (by omega)
  have hb4 : IntKind.i64.wrap ((g.ba : Int) + 0) = (g.ba : Int) := by rw [Int.add_zero]; exact IntWalk.i64_in _ (by omega)
  have hC0 : g.ba < g.m.C := by have := hr.fits.cells; have := hr.fits.one; omega
  have hC1 : g.ba + 1 < g.m.C := by have := hr.fits.cells; omega
  have HE1 := fun w' hr ha => act_end (w := w') (lo := lo) (b := b) (rb := rb) (ab := ab) (g := tickR g) (a := a) hr ha h1 h2 (by show g.m.t + 1 ≤ _; omega) false
  have HE := Lib.hid HE1
  have HRD := Lib.hid hrd
  have HAD := Lib.hid had
  have HST : Hid (foundR g a = true → stepR g a = (tickR g, { a with stage := 3 })) := fun hf => by
    obtain ⟨pt, sg, cn, nm, ok, mk⟩ := a
    simp only at hs
    subst hs
    simp only [stepR, hf, if_true]
  have HSF : Hid (foundR g a = false → stepR g a = (endR (tickR g) a.puts, { a with stage := 0, ok := false, mark := g.m.t + 1 })) := fun hf => by
    obtain ⟨pt, sg, cn, nm, ok, mk⟩ := a
    simp only at hs
    subst hs
    simp only [stepR, hf, Bool.false_eq_true, if_false]
  have hfr : ∀ o, w.frozen? ⟨ab, o, none⟩ = false := r7
  have hfa : ∀ w', Touch lo w w' → w'.frozen? ⟨ab, 2, none⟩ = false := fun w' htt => (World.frozen?_of_block (w := w) (htt.block _ ha.lt (.inr h1))).trans (r7 2)
  have HFA := Lib.hid hfa
  have hz : ∃ F, F = foundR g a := ⟨_, rfl⟩
  obtain ⟨F, hF⟩ := hz
  rw [← hF] at HST HSF
  obtain ⟨CN, hCN⟩ : ∃ CN, CN = a.cnt := ⟨_, rfl⟩
  rw [← hCN] at r3
  cases hpt : a.puts
  · have HL := mem_Load ((g.ba : Nat) : Int) hrd.mem (by omega)
    rw [loadS_k hC0, peekS_k hC0] at HL
    have HL := Lib.hid HL
    have hFd : F = decide (0 < waitN g.sz (g.m.c (g.ba)) CN) := by rw [hF, hCN]; unfold foundR; rw [hpt]; exact if_neg (by simp)
    rw [hpt] at r1
    generalize hX : g.m.c (g.ba) = X at *
    have HW : Hid (∀ w', RingAt w' lo b rb (tickR g) → Calls Try.prog 48 #[.pointer (some ⟨rb, 0, none⟩), .int .u64 X, .int .u64 CN] w' fun e w2 => e = .returned (.int .i64 (waitN g.sz X CN)) ∧ w' = w2) := fun w' h => ring_waiting h _ _
    generalize waitN g.sz X CN = Y at *
    have HFD := Lib.hid hFd
    generalize hBA : g.ba = BA at *
    generalize hSZ : g.sz = SZ at *
    clear hF hX hs hpt hCN hrd had hr ha r2 r4 r5 r6 r7 s3 s4 s5 s6 hC0 hC1 hFd hBA hSZ
    go_enter Try.func53, Try.ntmps53
    go_wp2_with fail
    go_region_held3 (fun w' => w'.cell? ⟨ab, 0, none⟩ = some (.pointer (some ⟨rb, 0, none⟩)) ∧ w'.cell? ⟨ab, 3, none⟩ = some (.int .u64 CN) ∧ w'.cell? ⟨rb, 0, none⟩ = some (.pointer (some ⟨b, 0, none⟩)) ∧ w'.cell? ⟨rb, 1, none⟩ = some (.int .i64 (BA : Nat)) ∧ w'.cell? ⟨rb, 2, none⟩ = some (.int .i64 (SZ : Nat))) (first | (with_reducible exact kpR5 (ab := ab) (rb := rb) (by assumption) (fun p hp => ht'.cell (by rcases hp with hp | hp <;> rw [hp] <;> assumption) (by rcases hp with hp | hp <;> rw [hp] <;> assumption)) (Or.inl rfl) (Or.inl rfl) (Or.inr rfl) (Or.inr rfl) (Or.inr rfl)) | go_keep) (first
      | (go_at_call 51; (with_reducible refine Calls.mono HL.out ?_); rintro e w1 ⟨rfl, hm, ht'⟩; have HR1 : Hid (RingAt w1 lo b rb (tickR g)) := HRD.out.memory hm ht' rfl; have HT1 := Lib.hid ht'; have HA1 := Lib.hid (HAD.out.touch ht' h1); clear hm)
      | (go_at_call 48; (with_reducible refine Calls.mono (HW.out _ HR1.out) ?_); rintro e w2 ⟨rfl, rfl⟩))
    have HT2 := Lib.hid HT1.out.drew
    cases F
    · have hd := HFD.out
      have he := HSF.out rfl
      have HEQ := Lib.hid he
      have hd2 : ¬ 0 < Y := of_decide_eq_false hd.symm
      clear hd he hba hb0 hb1 hb2 hb3 hb4 hb5 HE1 HFD HST HSF ht hfr hfa hlt1 hlt2
      go_wp2_with fail
      refine (HE.out _ HR1.out HA1.out).mono ?_
      rintro e w3 ⟨rfl, hr3, ha3, ht3⟩
      go_wp2
      go_end0
      rw [HEQ.out]
      exact ⟨rfl, hr3, ha3, ((Tch.refl _ w).touch HT2.out).trans ht3⟩
    · have hd := HFD.out
      have he := HST.out rfl
      have HEQ := Lib.hid he
      have hd2 : 0 < Y := of_decide_eq_true hd.symm
      clear hd he hba hb0 hb1 hb2 hb3 hb4 hb5 HE1 HFD HST HSF ht hfr hfa hlt1 hlt2
      have hfz := HFA.out _ HT2.out
      have hc2 := HA1.out.at_.2.2.1
      go_wp2
      go_end0
      rw [HEQ.out]
      exact ⟨rfl, HR1.out.setAct h1 h2 2 _, HA1.out.set_stage 3, ((Tch.refl _ w).touch HT2.out).act 2 _⟩
  · have HL := mem_Load ((g.ba + 1 : Nat) : Int) hrd.mem (by omega)
    rw [loadS_k hC1, peekS_k hC1, show ((g.ba + 1 : Nat) : Int) = (g.ba : Int) + 1 from by omega] at HL
    have HL := Lib.hid HL
    have hFd : F = decide (waitN g.sz CN (g.m.c (g.ba + 1)) < (g.sz : Int)) := by rw [hF, hCN]; unfold foundR; rw [hpt]; exact if_pos rfl
    rw [hpt] at r1
    generalize hX : g.m.c (g.ba + 1) = X at *
    have HW : Hid (∀ w', RingAt w' lo b rb (tickR g) → Calls Try.prog 48 #[.pointer (some ⟨rb, 0, none⟩), .int .u64 CN, .int .u64 X] w' fun e w2 => e = .returned (.int .i64 (waitN g.sz CN X)) ∧ w' = w2) := fun w' h => ring_waiting h _ _
    generalize waitN g.sz CN X = Y at *
    have HFD := Lib.hid hFd
    generalize hBA : g.ba = BA at *
    generalize hSZ : g.sz = SZ at *
    clear hF hX hs hpt hCN hrd had hr ha r2 r4 r5 r6 r7 s3 s4 s5 s6 hC0 hC1 hFd hBA hSZ
    go_enter Try.func53, Try.ntmps53
    go_wp2_with fail
    go_region_held3 (fun w' => w'.cell? ⟨ab, 0, none⟩ = some (.pointer (some ⟨rb, 0, none⟩)) ∧ w'.cell? ⟨ab, 3, none⟩ = some (.int .u64 CN) ∧ w'.cell? ⟨rb, 0, none⟩ = some (.pointer (some ⟨b, 0, none⟩)) ∧ w'.cell? ⟨rb, 1, none⟩ = some (.int .i64 (BA : Nat)) ∧ w'.cell? ⟨rb, 2, none⟩ = some (.int .i64 (SZ : Nat))) (first | (with_reducible exact kpR5 (ab := ab) (rb := rb) (by assumption) (fun p hp => ht'.cell (by rcases hp with hp | hp <;> rw [hp] <;> assumption) (by rcases hp with hp | hp <;> rw [hp] <;> assumption)) (Or.inl rfl) (Or.inl rfl) (Or.inr rfl) (Or.inr rfl) (Or.inr rfl)) | go_keep) (first
      | (go_at_call 51; (with_reducible refine Calls.mono HL.out ?_); rintro e w1 ⟨rfl, hm, ht'⟩; have HR1 : Hid (RingAt w1 lo b rb (tickR g)) := HRD.out.memory hm ht' rfl; have HT1 := Lib.hid ht'; have HA1 := Lib.hid (HAD.out.touch ht' h1); clear hm)
      | (go_at_call 48; (with_reducible refine Calls.mono (HW.out _ HR1.out) ?_); rintro e w2 ⟨rfl, rfl⟩))
    have HT2 := Lib.hid HT1.out.drew
    cases F
    · have hd := HFD.out
      have he := HSF.out rfl
      have HEQ := Lib.hid he
      have hd2 : ¬ Y < (SZ : Int) := of_decide_eq_false hd.symm
      clear hd he hba hb0 hb1 hb2 hb3 hb4 hb5 HE1 HFD HST HSF ht hfr hfa hlt1 hlt2
      go_wp2_with fail
      refine (HE.out _ HR1.out HA1.out).mono ?_
      rintro e w3 ⟨rfl, hr3, ha3, ht3⟩
      go_wp2
      go_end0
      rw [HEQ.out]
      exact ⟨rfl, hr3, ha3, ((Tch.refl _ w).touch HT2.out).trans ht3⟩
    · have hd := HFD.out
      have he := HST.out rfl
      have HEQ := Lib.hid he
      have hd2 : Y < (SZ : Int) := of_decide_eq_true hd.symm
      clear hd he hba hb0 hb1 hb2 hb3 hb4 hb5 HE1 HFD HST HSF ht hfr hfa hlt1 hlt2
      have hfz := HFA.out _ HT2.out
      have hc2 := HA1.out.at_.2.2.1
      go_wp2
      go_end0
      rw [HEQ.out]
      exact ⟨rfl, HR1.out.setAct h1 h2 2 _, HA1.out.set_stage 3, ((Tch.refl _ w).touch HT2.out).act 2 _⟩
end Go.Proofs.Ytpojnknhmpmhjaa
