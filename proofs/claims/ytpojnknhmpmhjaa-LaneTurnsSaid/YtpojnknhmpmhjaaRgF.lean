/-
  A whole step of an act. No statement is proved here.
-/
import Derived.Test.YtpojnknhmpmhjaaRgE
set_option linter.unusedVariables false
namespace Go.Proofs.Ytpojnknhmpmhjaa
open Go.RowKit

theorem over_at {w : World} {rb ab : Nat} {a : AcS} (h : ActAt w rb ab a) {z : Bool} (hz : decide (a.stage = 0) = z) :
    Calls Try.prog 25 #[.pointer (some ⟨ab, 0, none⟩)] w fun e w' => e = .returned (.bool z) ∧ w = w' := hz ▸ act_Over h

set_option maxRecDepth 20000 in
set_option maxHeartbeats 3200000 in
theorem act_Step0 {w : World} {lo b rb ab : Nat} {g : RgS} {pt ok : Bool} {CN NM mk : Int} (hr : RingAt w lo b rb g) (ha : ActAt w rb ab ⟨pt, 0, CN, NM, ok, mk⟩) (h1 : lo + 3 ≤ ab) (h2 : ab ≠ rb) (ht : g.m.t ≤ 4611686018427387900) :
    Calls Try.prog 28 #[.pointer (some ⟨ab, 0, none⟩)] w (Did lo b rb ab (stepR g ⟨pt, 0, CN, NM, ok, mk⟩).1 (stepR g ⟨pt, 0, CN, NM, ok, mk⟩).2 (.bool (decide ((stepR g ⟨pt, 0, CN, NM, ok, mk⟩).2.stage = 0))) w) := by
  have HO := Lib.hid (over_at ha (z := true) rfl)
  have HR := Lib.hid hr
  have HA := Lib.hid ha
  clear hr ha
  go_enter Try.func28, Try.ntmps28
  go_wp2_with fail
  refine (HO.out).mono ?_
  rintro e w1 ⟨rfl, rfl⟩
  go_wp2
  go_ret
  exact ⟨rfl, HR.out, HA.out, Tch.refl _ _⟩

set_option maxRecDepth 20000 in
set_option maxHeartbeats 3200000 in
theorem act_Step1 {w : World} {lo b rb ab : Nat} {g : RgS} {pt ok : Bool} {CN NM mk : Int} (hr : RingAt w lo b rb g) (ha : ActAt w rb ab ⟨pt, 1, CN, NM, ok, mk⟩) (h1 : lo + 3 ≤ ab) (h2 : ab ≠ rb) (ht : g.m.t ≤ 4611686018427387900) :
    Calls Try.prog 28 #[.pointer (some ⟨ab, 0, none⟩)] w (Did lo b rb ab (stepR g ⟨pt, 1, CN, NM, ok, mk⟩).1 (stepR g ⟨pt, 1, CN, NM, ok, mk⟩).2 (.bool (decide ((stepR g ⟨pt, 1, CN, NM, ok, mk⟩).2.stage = 0))) w) := by
  have HO := Lib.hid (over_at ha (z := false) rfl)
  obtain ⟨s0, s1, s2, s3, s4, s5, s6⟩ := hr.at_
  obtain ⟨r0, r1, r2, r3, r4, r5, r6, r7⟩ := ha.at_
  have hk : ownN g pt < g.m.C := by unfold ownN; have := hr.fits.cells; have := hr.fits.one; split <;> omega
  have hrd : RingAt w.drew lo b rb g := hr.below (Below.drew (Below.refl _ _))
  have had : ActAt w.drew rb ab ⟨pt, 1, CN, NM, ok, mk⟩ := ha.below (Below.drew (Below.refl _ _))
  have HOW := Lib.hid (act_own hrd had)
  have hL := mem_Load ((ownN g pt : Nat) : Int) hrd.mem (by omega)
  rw [loadS_k hk, peekS_k hk] at hL
  have HL := Lib.hid hL
  have HAF : Hid (∀ w', MemAt w' 81 lo b (tickS g.m) → Touch lo w.drew w' → RingAt w' lo b rb (tickR g) ∧ ActAt w' rb ab ⟨pt, 1, CN, NM, ok, mk⟩ ∧ Tch (RingD lo rb ab) w w') := fun w' hm htt =>
    ⟨hrd.memory hm htt rfl, had.touch htt h1, (Tch.refl _ w).touch htt.drew⟩
  have HOV : Hid (∀ w', ActAt w' rb ab ⟨pt, 2, g.m.c (ownN g pt), NM, ok, mk⟩ → Calls Try.prog 25 #[.pointer (some ⟨ab, 0, none⟩)] w' fun e w2 => e = .returned (.bool false) ∧ w' = w2) := fun w' h => over_at h rfl
  simp only [stepR]
  generalize g.m.c (ownN g pt) = X at *
  generalize ownN g pt = K at *
  clear hr ha hrd had hL ht hk r1 r3 r4 r5 r6 s1 s2 s3 s4 s5 s6
  go_enter Try.func28, Try.ntmps28
  go_wp2_with fail
  refine (HO.out).mono ?_
  rintro e w1 ⟨rfl, rfl⟩
  go_wp2_with fail
  go_region_held3 (fun w' => w'.cell? ⟨ab, 0, none⟩ = some (.pointer (some ⟨rb, 0, none⟩)) ∧ w'.cell? ⟨rb, 0, none⟩ = some (.pointer (some ⟨b, 0, none⟩))) (first | exact ⟨HX.out.2.1.at_.1, HX.out.1.at_.1⟩ | exact ⟨(HX.out.2.1.set_cnt X).at_.1, (HX.out.1.setAct h1 h2 3 _).at_.1⟩ | go_keep) (first
    | (go_at_call 51; (with_reducible refine Calls.mono HL.out ?_); rintro e w1 ⟨rfl, hm, ht'⟩; have HX := Lib.hid (HAF.out _ hm ht'); have q2 := HX.out.2.1.at_.2.2.1; have q3 := HX.out.2.1.at_.2.2.2.1; have q7 := HX.out.2.1.at_.2.2.2.2.2.2.2; clear hm ht')
    | (go_at_call 52; (with_reducible refine Calls.mono HOW.out ?_); rintro e w2 ⟨rfl, rfl⟩))
  have HA2 := Lib.hid ((HX.out.2.1.set_cnt X).set_stage 2)
  have HR2 := Lib.hid ((HX.out.1.setAct h1 h2 3 (.int .u64 X)).setAct h1 h2 2 (.int .i64 2))
  have HT2 := Lib.hid ((HX.out.2.2.act 3 (.int .u64 X)).act 2 (.int .i64 2))
  go_wp2_with fail
  refine (HOV.out _ HA2.out).mono ?_
  rintro e w4 ⟨rfl, rfl⟩
  go_wp2
  go_ret
  exact ⟨rfl, HR2.out, HA2.out, HT2.out⟩

set_option maxRecDepth 20000 in
set_option maxHeartbeats 3200000 in
theorem act_Step2 {w : World} {lo b rb ab : Nat} {g : RgS} {pt ok : Bool} {CN NM mk : Int} (hr : RingAt w lo b rb g) (ha : ActAt w rb ab ⟨pt, 2, CN, NM, ok, mk⟩) (h1 : lo + 3 ≤ ab) (h2 : ab ≠ rb) (ht : g.m.t ≤ 4611686018427387900) :
    Calls Try.prog 28 #[.pointer (some ⟨ab, 0, none⟩)] w (Did lo b rb ab (stepR g ⟨pt, 2, CN, NM, ok, mk⟩).1 (stepR g ⟨pt, 2, CN, NM, ok, mk⟩).2 (.bool (decide ((stepR g ⟨pt, 2, CN, NM, ok, mk⟩).2.stage = 0))) w) := by
  have HO := Lib.hid (over_at ha (z := false) rfl)
  obtain ⟨s0, s1, s2, s3, s4, s5, s6⟩ := hr.at_
  obtain ⟨r0, r1, r2, r3, r4, r5, r6, r7⟩ := ha.at_
  have HLK := Lib.hid (act_look hr ha h1 h2 ht rfl)
  have HOV : Hid (∀ w', ActAt w' rb ab (stepR g ⟨pt, 2, CN, NM, ok, mk⟩).2 → Calls Try.prog 25 #[.pointer (some ⟨ab, 0, none⟩)] w' fun e w2 => e = .returned (.bool (decide ((stepR g ⟨pt, 2, CN, NM, ok, mk⟩).2.stage = 0))) ∧ w' = w2) := fun w' h => over_at h rfl
  generalize decide ((stepR g ⟨pt, 2, CN, NM, ok, mk⟩).2.stage = 0) = z at *
  generalize (stepR g ⟨pt, 2, CN, NM, ok, mk⟩).2 = a' at *
  generalize (stepR g ⟨pt, 2, CN, NM, ok, mk⟩).1 = g' at *
  clear hr ha ht r0 r1 r3 r4 r5 r6 r7 s0 s1 s2 s3 s4 s5 s6
  go_enter Try.func28, Try.ntmps28
  go_wp2_with fail
  refine (HO.out).mono ?_
  rintro e w1 ⟨rfl, rfl⟩
  go_wp2_with fail
  refine (HLK.out).mono ?_
  rintro e w2 ⟨rfl, hr2, ha2, ht2⟩
  have HX := Lib.hid (And.intro hr2 (And.intro ha2 ht2))
  clear hr2 ha2 ht2
  go_wp2_with fail
  refine (HOV.out _ HX.out.2.1).mono ?_
  rintro e w4 ⟨rfl, rfl⟩
  go_wp2
  go_ret
  exact ⟨rfl, HX.out.1, HX.out.2.1, HX.out.2.2⟩

set_option maxRecDepth 20000 in
set_option maxHeartbeats 3200000 in
theorem act_Step3 {w : World} {lo b rb ab : Nat} {g : RgS} {pt ok : Bool} {CN NM mk : Int} (hr : RingAt w lo b rb g) (ha : ActAt w rb ab ⟨pt, 3, CN, NM, ok, mk⟩) (h1 : lo + 3 ≤ ab) (h2 : ab ≠ rb) (ht : g.m.t ≤ 4611686018427387900) :
    Calls Try.prog 28 #[.pointer (some ⟨ab, 0, none⟩)] w (Did lo b rb ab (stepR g ⟨pt, 3, CN, NM, ok, mk⟩).1 (stepR g ⟨pt, 3, CN, NM, ok, mk⟩).2 (.bool (decide ((stepR g ⟨pt, 3, CN, NM, ok, mk⟩).2.stage = 0))) w) := by
  have HO := Lib.hid (over_at ha (z := false) rfl)
  obtain ⟨s0, s1, s2, s3, s4, s5, s6⟩ := hr.at_
  obtain ⟨r0, r1, r2, r3, r4, r5, r6, r7⟩ := ha.at_
  have hmv := act_move hr ha h1 h2 ht
  simp only at hmv
  have hst : (stepR g ⟨pt, 3, CN, NM, ok, mk⟩) = (if pt then putR g (placeN g CN) NM else tickR g, { (if pt then (⟨pt, 3, CN, NM, ok, mk⟩ : AcS) else ⟨pt, 3, CN, g.m.c (placeN g CN), ok, mk⟩) with stage := 4 }) := by
    cases pt <;> rfl
  rw [hst]
  generalize hG : (if pt = true then putR g (placeN g CN) NM else tickR g) = g' at *
  generalize hA : (if pt = true then (⟨pt, 3, CN, NM, ok, mk⟩ : AcS) else ⟨pt, 3, CN, g.m.c (placeN g CN), ok, mk⟩) = a' at *
  have hA3 : a'.stage = 3 := by rw [← hA]; cases pt <;> rfl
  have HMV := Lib.hid hmv
  have HOV : Hid (∀ w', ActAt w' rb ab { a' with stage := 4 } → Calls Try.prog 25 #[.pointer (some ⟨ab, 0, none⟩)] w' fun e w2 => e = .returned (.bool false) ∧ w' = w2) := fun w' h => over_at h rfl
  clear hr ha ht hst hmv hG hA r0 r1 r3 r4 r5 r6 r7 s0 s1 s2 s3 s4 s5 s6
  go_enter Try.func28, Try.ntmps28
  go_wp2_with fail
  refine (HO.out).mono ?_
  rintro e w1 ⟨rfl, rfl⟩
  go_wp2_with fail
  refine (HMV.out).mono ?_
  rintro e w2 ⟨rfl, hr2, ha2, ht2⟩
  have HX := Lib.hid (And.intro hr2 (And.intro ha2 ht2))
  obtain ⟨_, _, q2, _, _, _, _, q7⟩ := ha2.at_
  have HA2 := Lib.hid (ha2.set_stage 4)
  clear hr2 ha2 ht2 hA3
  go_wp2_with fail
  refine (HOV.out _ HA2.out).mono ?_
  rintro e w4 ⟨rfl, rfl⟩
  go_wp2
  go_ret
  exact ⟨rfl, HX.out.1.setAct h1 h2 2 _, HA2.out, HX.out.2.2.act 2 _⟩

set_option maxRecDepth 20000 in
set_option maxHeartbeats 3200000 in
theorem act_Step4 {w : World} {lo b rb ab : Nat} {g : RgS} {pt ok : Bool} {CN NM mk : Int} (hr : RingAt w lo b rb g) (ha : ActAt w rb ab ⟨pt, 4, CN, NM, ok, mk⟩) (h1 : lo + 3 ≤ ab) (h2 : ab ≠ rb) (ht : g.m.t ≤ 4611686018427387900) :
    Calls Try.prog 28 #[.pointer (some ⟨ab, 0, none⟩)] w (Did lo b rb ab (stepR g ⟨pt, 4, CN, NM, ok, mk⟩).1 (stepR g ⟨pt, 4, CN, NM, ok, mk⟩).2 (.bool (decide ((stepR g ⟨pt, 4, CN, NM, ok, mk⟩).2.stage = 0))) w) := by
  have HO := Lib.hid (over_at ha (z := false) rfl)
  obtain ⟨s0, s1, s2, s3, s4, s5, s6⟩ := hr.at_
  obtain ⟨r0, r1, r2, r3, r4, r5, r6, r7⟩ := ha.at_
  have hk : ownN g pt < g.m.C := by unfold ownN; have := hr.fits.cells; have := hr.fits.one; split <;> omega
  have hrd : RingAt w.drew lo b rb g := hr.below (Below.drew (Below.refl _ _))
  have had : ActAt w.drew rb ab ⟨pt, 4, CN, NM, ok, mk⟩ := ha.below (Below.drew (Below.refl _ _))
  have HOW := Lib.hid (act_own hrd had)
  have hwr : IntKind.u64.wrap (CN + 1) = (CN + 1) % 18446744073709551616 := IntKind.wrap_u64 _
  have hL := mem_Store ((ownN g pt : Nat) : Int) ((CN + 1) % 18446744073709551616) hrd.mem (by omega)
  rw [storeS_k hk] at hL
  have HL := Lib.hid hL
  obtain ⟨V, hV⟩ : ∃ V, V = (CN + 1) % 18446744073709551616 := ⟨_, rfl⟩
  have HAF : Hid (∀ w', MemAt w' 81 lo b (putC (tickS g.m) (ownN g pt) V) → Touch lo w.drew w' → RingAt w' lo b rb (putR g (ownN g pt) V) ∧ ActAt w' rb ab ⟨pt, 4, CN, NM, ok, mk⟩ ∧ Tch (RingD lo rb ab) w w') := fun w' hm htt =>
    ⟨hrd.memory hm htt rfl, had.touch htt h1, (Tch.refl _ w).touch htt.drew⟩
  have HE : Hid (∀ w', RingAt w' lo b rb (putR g (ownN g pt) V) → ActAt w' rb ab ⟨pt, 4, CN, NM, ok, mk⟩ → Calls Try.prog 55 #[.pointer (some ⟨ab, 0, none⟩), .bool true] w' (Did lo b rb ab (endR (putR g (ownN g pt) V) pt) ⟨pt, 0, CN, NM, true, g.m.t + 1⟩ (.tuple #[]) w')) := fun w' hr ha => act_end hr ha h1 h2 (by show g.m.t + 1 ≤ _; omega) true
  have HOV : Hid (∀ w', ActAt w' rb ab ⟨pt, 0, CN, NM, true, g.m.t + 1⟩ → Calls Try.prog 25 #[.pointer (some ⟨ab, 0, none⟩)] w' fun e w2 => e = .returned (.bool true) ∧ w' = w2) := fun w' h => over_at h rfl
  simp only [stepR]
  rw [← hV] at hwr ⊢
  rw [← hV] at HL
  generalize putR g (ownN g pt) V = G at *
  generalize putC (tickS g.m) (ownN g pt) V = MM at *
  generalize ownN g pt = K at *
  generalize g.m.t + 1 = T at *
  clear hr ha hrd had hL ht hk hV r1 r4 r5 r6 r7 s1 s2 s3 s4 s5 s6
  go_enter Try.func28, Try.ntmps28
  go_wp2_with fail
  refine (HO.out).mono ?_
  rintro e w1 ⟨rfl, rfl⟩
  go_wp2_with fail
  go_region_held3 (fun w' => w'.cell? ⟨ab, 0, none⟩ = some (.pointer (some ⟨rb, 0, none⟩)) ∧ w'.cell? ⟨ab, 3, none⟩ = some (.int .u64 CN) ∧ w'.cell? ⟨rb, 0, none⟩ = some (.pointer (some ⟨b, 0, none⟩))) (first | exact ⟨HX.out.2.1.at_.1, HX.out.2.1.at_.2.2.2.1, HX.out.1.at_.1⟩ | go_keep) (first
    | (go_at_call 47; (with_reducible refine Calls.mono HL.out ?_); rintro e w1 ⟨rfl, hm, ht'⟩; have HX := Lib.hid (HAF.out _ hm ht'); clear hm ht')
    | (go_at_call 52; (with_reducible refine Calls.mono HOW.out ?_); rintro e w2 ⟨rfl, rfl⟩))
  go_wp2_with fail
  refine (HE.out _ HX.out.1 HX.out.2.1).mono ?_
  rintro e w3 ⟨rfl, hr3, ha3, ht3⟩
  have HY := Lib.hid (And.intro hr3 (And.intro ha3 (HX.out.2.2.trans ht3)))
  clear hr3 ha3 ht3
  go_wp2_with fail
  refine (HOV.out _ HY.out.2.1).mono ?_
  rintro e w4 ⟨rfl, rfl⟩
  go_wp2
  go_ret
  exact ⟨rfl, HY.out.1, HY.out.2.1, HY.out.2.2⟩

theorem act_Step {w : World} {lo b rb ab : Nat} {g : RgS} {a : AcS} (hr : RingAt w lo b rb g) (ha : ActAt w rb ab a) (h1 : lo + 3 ≤ ab) (h2 : ab ≠ rb) (ht : g.m.t ≤ 4611686018427387900) (hs : a.stage ≤ 4) :
    Calls Try.prog 28 #[.pointer (some ⟨ab, 0, none⟩)] w (Did lo b rb ab (stepR g a).1 (stepR g a).2 (.bool (decide ((stepR g a).2.stage = 0))) w) := by
  obtain ⟨pt, sg, CN, NM, ok, mk⟩ := a
  simp only at hs
  have : sg = 0 ∨ sg = 1 ∨ sg = 2 ∨ sg = 3 ∨ sg = 4 := by omega
  rcases this with rfl | rfl | rfl | rfl | rfl
  · exact act_Step0 hr ha h1 h2 ht
  · exact act_Step1 hr ha h1 h2 ht
  · exact act_Step2 hr ha h1 h2 ht
  · exact act_Step3 hr ha h1 h2 ht
  · exact act_Step4 hr ha h1 h2 ht
end Go.Proofs.Ytpojnknhmpmhjaa
