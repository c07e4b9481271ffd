/-
  What a lane's calls turn: New, Next, lookAt, end, Step, Len. No statement is proved here.
-/
import Derived.Test.YtpojnknhmpmhjaaLnC
import Derived.Deep.RegionHeld3
set_option linter.unusedVariables false
namespace Go.Proofs.Ytpojnknhmpmhjaa
open Go.RowKit

set_option maxHeartbeats 1600000 in
theorem lact_end {w : World} {lb g n cap : Nat} {rbs : Nat → Nat} {c : Nat} {tk : Bool} {ab k j : Nat} {pp : Option Addr} (h : LaneAt w lb g n cap rbs c tk) (ha : LActAt w ab (some ⟨lb, 0, none⟩) pp k j) (hab : lb < ab) :
    Calls Try.prog 58 #[.pointer (some ⟨ab, 0, none⟩)] w fun e w' => e = .returned (.tuple #[]) ∧ LaneAt w' lb g n cap rbs c false ∧ LActAt w' ab none pp k j ∧ Tch (fun x => x = lb ∨ x = ab) w w' := by
  obtain ⟨s0, s1, s2, s3⟩ := h.at_
  obtain ⟨r0, r1, r2, r3, r4⟩ := ha.at_
  have hglt := h.glt
  have HL := Lib.hid ((h.setTk false).setFar (ab := ab) (by omega) (by omega) 0 (.pointer none))
  have HA := Lib.hid ((ha.setOther (p := lb) (by omega) 2 (.bool false)).setL none)
  have HT := Lib.hid (((Tch.refl (fun x => x = lb ∨ x = ab) w).setCell (p := ⟨lb, 2, none⟩) (.inl rfl) (.bool false)).setCell (p := ⟨ab, 0, none⟩) (.inr rfl) (.pointer none))
  clear h ha s0 s1 r1 r2 r3
  go_enter Try.func58, Try.ntmps58
  go_wp2
  go_end0
  exact ⟨rfl, HL.out, HA.out, HT.out⟩
set_option maxHeartbeats 1600000 in
theorem lact_lookAt {w : World} {lo b : Nat} {G : RgS} {lb g n cap : Nat} {rbs : Nat → Nat} {c : Nat} {tk : Bool} {ab k k0 j : Nat} {pp : Option Addr} (h : LaneAt w lb g n cap rbs c tk) (ha : LActAt w ab (some ⟨lb, 0, none⟩) pp k0 j) (hab : lb < ab) (hk : k < n) (hr : RingAt w lo b (rbs k) G) (hpo : G.po = false) :
    Calls Try.prog 56 #[.pointer (some ⟨ab, 0, none⟩), .int .i64 (k : Int)] w fun e w' => e = .returned (.tuple #[]) ∧ LaneAt w' lb g n cap rbs c tk ∧ LActAt w' ab (some ⟨lb, 0, none⟩) (some ⟨w.heap.size, 0, none⟩) k j ∧ RingAt w' lo b (rbs k) { G with po := true } ∧ ActAt w' (rbs k) w.heap.size ⟨false, 1, 0, 0, false, 0⟩ ∧ Tch (fun x => x = rbs k ∨ x = ab) w w' := by
  obtain ⟨s0, s1, s2, s3⟩ := h.at_
  obtain ⟨r0, r1, r2, r3, r4⟩ := ha.at_
  have hglt := h.glt
  have hfew := h.few
  have hcap := h.cap1
  have hcap2 := h.cap2
  unfold maxLen at hcap2
  have hrlt := h.rlt k hk
  have hcell := h.cells k hk
  have hlt := ha.lt
  have hllt := h.lt
  have hL1 := h.setFar (ab := ab) (by omega) (by omega) 2 (.int .i64 (k : Int))
  have hA1 := ha.setK k
  have hR1 := hr.setFar (ab := ab) (by omega) 2 (.int .i64 (k : Int))
  have hT1 := (Tch.refl (fun x => x = rbs k ∨ x = ab) w).setCell (p := ⟨ab, 2, none⟩) (.inr rfl) (.int .i64 (k : Int))
  obtain ⟨w1, hw1⟩ : ∃ w1, w1 = w.setCell ⟨ab, 2, none⟩ (.int .i64 (k : Int)) := ⟨_, rfl⟩
  rw [← hw1] at hL1 hA1 hR1 hT1
  have hz1 : w1.heap.size = w.heap.size := by rw [hw1]; simp [World.setCell]
  have HP := ring_Pop hR1 hpo
  rw [hz1] at HP
  obtain ⟨t0, t1, t2, t3⟩ := hL1.at_
  obtain ⟨u0, u1, u2, u3, u4⟩ := hA1.at_
  have hcell1 := hL1.cells k hk
  have HFIN : Hid (∀ w2, RingAt w2 lo b (rbs k) { G with po := true } → ActAt w2 (rbs k) w.heap.size ⟨false, 1, 0, 0, false, 0⟩ → Tch (fun x => x = rbs k) w1 w2 → LaneAt (w2.setCell ⟨ab, 1, none⟩ (.pointer (some ⟨w.heap.size, 0, none⟩))) lb g n cap rbs c tk ∧ LActAt (w2.setCell ⟨ab, 1, none⟩ (.pointer (some ⟨w.heap.size, 0, none⟩))) ab (some ⟨lb, 0, none⟩) (some ⟨w.heap.size, 0, none⟩) k j ∧ RingAt (w2.setCell ⟨ab, 1, none⟩ (.pointer (some ⟨w.heap.size, 0, none⟩))) lo b (rbs k) { G with po := true } ∧ ActAt (w2.setCell ⟨ab, 1, none⟩ (.pointer (some ⟨w.heap.size, 0, none⟩))) (rbs k) w.heap.size ⟨false, 1, 0, 0, false, 0⟩ ∧ Tch (fun x => x = rbs k ∨ x = ab) w (w2.setCell ⟨ab, 1, none⟩ (.pointer (some ⟨w.heap.size, 0, none⟩)))) := fun w2 hr2 ha2 ht2 =>
    ⟨(hL1.tch ht2 (by omega) (by omega)).setFar (by omega) (by omega) _ _, (hA1.tch ht2 (by omega)).setP _, hr2.setFar (by omega) _ _, ha2.setOther (by omega) _ _,
      (hT1.trans (ht2.mono fun x _ hx => .inl hx)).setCell (p := ⟨ab, 1, none⟩) (.inr rfl) _⟩
  have HFR : Hid (∀ w2, Tch (fun x => x = rbs k) w1 w2 → w2.frozen? ⟨ab, 1, none⟩ = false ∧ w2.cell? ⟨ab, 1, none⟩ = some (.pointer pp)) := fun w2 ht2 => ⟨(hA1.tch ht2 (by omega)).at_.2.2.2.2 1, (hA1.tch ht2 (by omega)).at_.2.1⟩
  have HPP := Lib.hid HP
  clear HP h ha hr hL1 hA1 hR1 hT1 s1 s2 r1 r3 t1 t2 t3 u1 u3 u4
  go_enter Try.func56, Try.ntmps56
  go_wp2_with fail
  rw [← hw1]
  clear hw1 s0 s3 r0 r2 r4 hcell
  refine (HPP.out).mono ?_
  rintro e w2 ⟨rfl, hr2, ha2, ht2⟩
  have HX := Lib.hid (HFIN.out w2 hr2 ha2 ht2)
  obtain ⟨f1, f2⟩ := HFR.out w2 ht2
  clear hr2 ha2 ht2
  go_wp2
  go_end0
  exact ⟨rfl, HX.out⟩
set_option maxRecDepth 20000 in
set_option maxHeartbeats 1600000 in
theorem lane_Next {w : World} {lo b : Nat} {G : RgS} {lb g n cap : Nat} {rbs : Nat → Nat} {c : Nat} (h : LaneAt w lb g n cap rbs c false) (hr : RingAt w lo b (rbs c) G) (hpo : G.po = false) :
    Calls Try.prog 42 #[.pointer (some ⟨lb, 0, none⟩)] w fun e w' => e = .returned (.pointer (some ⟨w.heap.size, 0, none⟩)) ∧ LaneAt w' lb g n cap rbs c true ∧ LActAt w' w.heap.size (some ⟨lb, 0, none⟩) (some ⟨w.heap.size + 1, 0, none⟩) c 0 ∧ RingAt w' lo b (rbs c) { G with po := true } ∧ ActAt w' (rbs c) (w.heap.size + 1) ⟨false, 1, 0, 0, false, 0⟩ ∧ Tch (fun x => x = lb ∨ x = rbs c) w w' := by
  obtain ⟨s0, s1, s2, s3⟩ := h.at_
  have hlt := h.lt
  have hglt := h.glt
  have hcur := h.cur
  have hrlt := h.rlt c h.cur
  have e3 : ((n : Int) == 0) = false := by have := h.one; simp; omega
  have hL1 := (h.setTk true).below ((Below.refl _ _).alloc (Nat.le_refl _) (.cells #[.pointer (some ⟨lb, 0, none⟩), .pointer none, .int .i64 0, .int .i64 0] 92))
  have hR1 := (hr.setFar (ab := lb) (by omega) 2 (.bool true)).below ((Below.refl _ _).alloc (Nat.le_refl _) (.cells #[.pointer (some ⟨lb, 0, none⟩), .pointer none, .int .i64 0, .int .i64 0] 92))
  have hA1 : LActAt ((w.setCell ⟨lb, 2, none⟩ (.bool true)).alloc (.cells #[.pointer (some ⟨lb, 0, none⟩), .pointer none, .int .i64 0, .int .i64 0] 92)) w.heap.size (some ⟨lb, 0, none⟩) none 0 0 := by
    have := World.rowIs_alloc (w.setCell ⟨lb, 2, none⟩ (.bool true)) #[.pointer (some ⟨lb, 0, none⟩), .pointer none, .int .i64 0, .int .i64 0] 92 (lactF (some ⟨lb, 0, none⟩) none 0 0) (fun i hi => by
      match i, hi with
      | 0, _ => rfl
      | 1, _ => rfl
      | 2, _ => rfl
      | 3, _ => rfl)
    have e : ∀ p v, (w.setCell p v).heap.size = w.heap.size := fun p v => by simp [World.setCell]
    rw [e] at this
    exact this
  have hT1 := ((Tch.refl (fun x => x = lb) w).setCell (p := ⟨lb, 2, none⟩) rfl (.bool true)).alloc (.cells #[.pointer (some ⟨lb, 0, none⟩), .pointer none, .int .i64 0, .int .i64 0] 92)
  obtain ⟨w1, hw1⟩ : ∃ w1, w1 = (w.setCell ⟨lb, 2, none⟩ (.bool true)).alloc (.cells #[.pointer (some ⟨lb, 0, none⟩), .pointer none, .int .i64 0, .int .i64 0] 92) := ⟨_, rfl⟩
  rw [← hw1] at hL1 hR1 hA1 hT1
  have hz1 : w1.heap.size = w.heap.size + 1 := by rw [hw1]; simp [World.setCell]
  have HLK := lact_lookAt hL1 hA1 hlt hcur hR1 hpo
  rw [hz1] at HLK
  obtain ⟨t0, t1, t2, t3⟩ := hL1.at_
  have HFIN : Hid (∀ w2, Tch (fun x => x = rbs c ∨ x = w.heap.size) w1 w2 → Tch (fun x => x = lb ∨ x = rbs c) w w2) := fun w2 ht =>
    ⟨ht.os.trans hT1.os, ht.tape.trans hT1.tape, ht.output.trans hT1.output, by have := ht.size; omega, fun x hx hd => (ht.block x (by omega) (fun e => by rcases e with e | e; exact hd (.inr e); omega)).trans (hT1.block x hx (fun e => hd (.inl e)))⟩
  have HLK := Lib.hid HLK
  have HNE := Lib.hid hz1
  clear h hr hL1 hR1 hA1 hT1 t0 t2 t3 hz1
  go_enter Try.func42, Try.ntmps42
  go_wp2_with fail
  rw [← hw1]
  clear hw1 s0 s1 s2 s3
  refine (HLK.out).mono ?_
  rintro e w2 ⟨rfl, hl, ha, hr, hac, ht⟩
  have HX := Lib.hid (And.intro hl (And.intro ha (And.intro hr (And.intro hac (HFIN.out w2 ht)))))
  clear hl ha hr hac ht
  go_wp2
  go_ret
  exact ⟨by first | rfl | (simp; done), HX.out⟩
set_option maxRecDepth 20000 in
set_option maxHeartbeats 1600000 in
theorem lact_Step_on {w : World} {lo b : Nat} {G : RgS} {a : AcS} {lb g n cap : Nat} {rbs : Nat → Nat} {c : Nat} {tk : Bool} {ab pb k j : Nat} (h : LaneAt w lb g n cap rbs c tk) (hl : LActAt w ab (some ⟨lb, 0, none⟩) (some ⟨pb, 0, none⟩) k j) (hr : RingAt w lo b (rbs k) G) (ha : ActAt w (rbs k) pb a) (hab : lb < ab) (hpb : lb < pb) (hne : ab ≠ pb) (hk : k < n) (hj : j < n) (ht : G.m.t ≤ 4611686018427387900) (h4 : a.stage ≤ 4) (hs : (stepR G a).2.stage ≠ 0) :
    Calls Try.prog 44 #[.pointer (some ⟨ab, 0, none⟩)] w fun e w' => e = .returned (.bool false) ∧ RingAt w' lo b (rbs k) (stepR G a).1 ∧ ActAt w' (rbs k) pb (stepR G a).2 ∧ LaneAt w' lb g n cap rbs c tk ∧ LActAt w' ab (some ⟨lb, 0, none⟩) (some ⟨pb, 0, none⟩) k j ∧ Tch (RingD lo (rbs k) pb) w w' := by
  have hglt := h.glt
  have hrlt := h.rlt k hk
  have hfew := h.few
  have hone := h.one
  have hrout := hr.out
  have HOV := Lib.hid (lact_Over hl)
  obtain ⟨r0, r1, r2, r3, r4⟩ := hl.at_
  have HST := act_Step hr ha (by omega) (by omega) ht h4
  rw [decide_eq_false hs] at HST
  have HST := Lib.hid HST
  generalize (stepR G a).1 = G' at *
  generalize (stepR G a).2 = a' at *
  have HH := Lib.hid h
  have HL := Lib.hid hl
  clear h hl hr ha ht hs h4
  clear r0 r2 r3 r4
  go_enter Try.func44, Try.ntmps44
  go_wp2_with fail
  refine (HOV.out).mono ?_
  rintro e w1 ⟨rfl, rfl⟩
  go_wp2_with fail
  refine (HST.out).mono ?_
  rintro e w1 ⟨rfl, hr1, ha1, ht1⟩
  have h := HH.out
  have hl := HL.out
  have hl1 := hl.tch ht1 (by unfold RingD; omega)
  have h1 := h.tch ht1 (by unfold RingD; omega) (by unfold RingD; omega)
  have HX := Lib.hid (And.intro hr1 (And.intro ha1 (And.intro h1 (And.intro hl1 ht1))))
  clear h hl hl1 h1 hr1 ha1 ht1
  go_wp2
  go_ret
  exact ⟨by first | rfl | (simp; done), HX.out⟩
set_option maxRecDepth 20000 in
set_option maxHeartbeats 1600000 in
theorem lact_Step_got {w : World} {lo b : Nat} {G : RgS} {a : AcS} {lb g n cap : Nat} {rbs : Nat → Nat} {c : Nat} {tk : Bool} {ab pb k j : Nat} (h : LaneAt w lb g n cap rbs c tk) (hl : LActAt w ab (some ⟨lb, 0, none⟩) (some ⟨pb, 0, none⟩) k j) (hr : RingAt w lo b (rbs k) G) (ha : ActAt w (rbs k) pb a) (hab : lb < ab) (hpb : lb < pb) (hne : ab ≠ pb) (hk : k < n) (hj : j < n) (ht : G.m.t ≤ 4611686018427387900) (h4 : a.stage ≤ 4) (hs : (stepR G a).2.stage = 0) (ho : (stepR G a).2.ok = true) :
    Calls Try.prog 44 #[.pointer (some ⟨ab, 0, none⟩)] w fun e w' => e = .returned (.bool true) ∧ RingAt w' lo b (rbs k) (stepR G a).1 ∧ ActAt w' (rbs k) pb (stepR G a).2 ∧ LaneAt w' lb g n cap rbs ((k + 1) % n) false ∧ LActAt w' ab none (some ⟨pb, 0, none⟩) k j ∧ Tch (fun x => RingD lo (rbs k) pb x ∨ x = lb ∨ x = ab) w w' := by
  have hglt := h.glt
  have hrlt := h.rlt k hk
  have hfew := h.few
  have hone := h.one
  have hrout := hr.out
  have HOV := Lib.hid (lact_Over hl)
  obtain ⟨r0, r1, r2, r3, r4⟩ := hl.at_
  have HST := act_Step hr ha (by omega) (by omega) ht h4
  obtain ⟨K, hK⟩ : ∃ K, K = (k + 1) % n := ⟨_, rfl⟩
  have hcur : K < n := by rw [hK]; exact Nat.mod_lt _ (by omega)
  rw [← hK]
  have HK := Lib.hid hK
  clear hK
  rw [decide_eq_true hs] at HST
  have HST := Lib.hid HST
  have hok : (stepR G a).2.ok = true := ho
  generalize (stepR G a).1 = G' at *
  generalize (stepR G a).2 = a' at *
  have HH := Lib.hid h
  have HL := Lib.hid hl
  clear h hl hr ha ht hs ho h4
  clear r0 r2 r3 r4
  go_enter Try.func44, Try.ntmps44
  go_wp2_with fail
  refine (HOV.out).mono ?_
  rintro e w1 ⟨rfl, rfl⟩
  go_wp2_with fail
  refine (HST.out).mono ?_
  rintro e w1 ⟨rfl, hr1, ha1, ht1⟩
  have h := HH.out
  have hl := HL.out
  have hl1 := hl.tch ht1 (by unfold RingD; omega)
  have h1 := h.tch ht1 (by unfold RingD; omega) (by unfold RingD; omega)
  have HOK := act_Ok ha1
  rw [hok] at HOK
  have HOK := Lib.hid HOK
  obtain ⟨q0, q1, q2, q3, q4⟩ := hl1.at_
  have HR1 := Lib.hid hr1
  have HA1 := Lib.hid ha1
  have HT1 := Lib.hid ht1
  have H1 := Lib.hid h1
  have HL1 := Lib.hid hl1
  clear h hl hl1 h1 hr1 ha1 ht1 r1
  go_wp2_with fail
  refine (HOK.out).mono ?_
  rintro e w2 ⟨rfl, rfl⟩
  have HBH : Hid (∀ w', Below w1.heap.size w1 w' → Calls Try.prog 57 #[.pointer (some ⟨lb, 0, none⟩), .int .i64 (k : Int)] w' fun e w2 => e = .returned (.int .i64 (K : Int)) ∧ w' = w2) := fun w' hb => by
    have := lane_behind (H1.out.below hb) hk 0
    rwa [World.drewN_zero, ← HK.out] at this
  obtain ⟨p0, p1, p2, p3⟩ := H1.out.at_
  have HEND : Hid (∀ w', Below (w1.setCell ⟨lb, 1, none⟩ (.int .i64 (K : Int))).heap.size (w1.setCell ⟨lb, 1, none⟩ (.int .i64 (K : Int))) w' → Calls Try.prog 58 #[.pointer (some ⟨ab, 0, none⟩)] w' fun e w4 => e = .returned (.tuple #[]) ∧ RingAt w4 lo b (rbs k) G' ∧ ActAt w4 (rbs k) pb a' ∧ LaneAt w4 lb g n cap rbs K false ∧ LActAt w4 ab none (some ⟨pb, 0, none⟩) k j ∧ Tch (fun x => RingD lo (rbs k) pb x ∨ x = lb ∨ x = ab) w w4) := fun w' hb => by
    have g1 := (H1.out.setCur hcur).below hb
    have g2 := (HL1.out.setOther (p := lb) (by omega) 1 (.int .i64 (K : Int))).below hb
    refine (lact_end g1 g2 hab).mono fun e w4 hh => ?_
    obtain ⟨he, he1, he2, he3⟩ := hh
    exact ⟨he, ((HR1.out.setFar (by omega) _ _).below hb).tch he3 (by omega) (by omega), ((HA1.out.setOther (by omega) _ _).below hb).tch he3 (by omega), he1, he2, (((HT1.out.mono fun x _ hx => .inl hx).setCell (p := ⟨lb, 1, none⟩) (.inr (.inl rfl)) _).trans (Tch.of_below hb)).trans (he3.mono fun x _ hx => .inr hx)⟩
  have f0 := p3 1
  have hz1 := H1.out.lt
  have hz2 := HL1.out.lt
  have q0' := (HL1.out.setOther (p := lb) (by omega) 1 (.int .i64 (K : Int))).at_.1
  have q2' := (HL1.out.setOther (p := lb) (by omega) 1 (.int .i64 (K : Int))).at_.2.2.1
  generalize (K : Int) = KI at *
  clear p0 p2 p3
  go_wp2_with fail
  go_region_held3 (fun w' => w'.cell? ⟨ab, 0, none⟩ = some (.pointer (some ⟨lb, 0, none⟩)) ∧ w'.cell? ⟨ab, 2, none⟩ = some (.int .i64 (k : Int))) (first | (with_reducible assumption) | exact ⟨q0', q2'⟩ | go_keep) (first
    | (go_at_call 57; (with_reducible refine Calls.mono (HBH.out _ (by (repeat' (first | (with_reducible exact Below.refl _ _) | (with_reducible assumption) | (with_reducible refine Below.setCell ?_ ?_ _) | (with_reducible refine Below.alloc ?_ ?_ _) | (with_reducible refine below_drewN ?_ _) | (with_reducible refine Below.drew ?_) | go_size)))) ?_); rintro e w2 ⟨rfl, rfl⟩))
  go_wp2_with fail
  refine (HEND.out _ (by (repeat' (first | (with_reducible exact Below.refl _ _) | (with_reducible assumption) | (with_reducible refine Below.setCell ?_ ?_ _) | (with_reducible refine Below.alloc ?_ ?_ _) | (with_reducible refine below_drewN ?_ _) | (with_reducible refine Below.drew ?_) | go_size)))).mono ?_
  rintro e w4 ⟨rfl, hx⟩
  have HX := Lib.hid hx
  clear hx
  go_wp2
  go_ret
  exact ⟨by first | rfl | (simp; done), HX.out⟩
set_option maxRecDepth 20000 in
set_option maxHeartbeats 1600000 in
theorem lact_Step_none {w : World} {lo b : Nat} {G : RgS} {a : AcS} {lb g n cap : Nat} {rbs : Nat → Nat} {c : Nat} {tk : Bool} {ab pb k j : Nat} (h : LaneAt w lb g n cap rbs c tk) (hl : LActAt w ab (some ⟨lb, 0, none⟩) (some ⟨pb, 0, none⟩) k j) (hr : RingAt w lo b (rbs k) G) (ha : ActAt w (rbs k) pb a) (hab : lb < ab) (hpb : lb < pb) (hne : ab ≠ pb) (hk : k < n) (hj : j < n) (ht : G.m.t ≤ 4611686018427387900) (h4 : a.stage ≤ 4) (hs : (stepR G a).2.stage = 0) (ho : (stepR G a).2.ok = false) (hjn : j + 1 = n) :
    Calls Try.prog 44 #[.pointer (some ⟨ab, 0, none⟩)] w fun e w' => e = .returned (.bool true) ∧ RingAt w' lo b (rbs k) (stepR G a).1 ∧ ActAt w' (rbs k) pb (stepR G a).2 ∧ LaneAt w' lb g n cap rbs c false ∧ LActAt w' ab none (some ⟨pb, 0, none⟩) k (j + 1) ∧ Tch (fun x => RingD lo (rbs k) pb x ∨ x = lb ∨ x = ab) w w' := by
  have hglt := h.glt
  have hrlt := h.rlt k hk
  have hfew := h.few
  have hone := h.one
  have hrout := hr.out
  have HOV := Lib.hid (lact_Over hl)
  obtain ⟨r0, r1, r2, r3, r4⟩ := hl.at_
  have HST := act_Step hr ha (by omega) (by omega) ht h4
  rw [decide_eq_true hs] at HST
  have HST := Lib.hid HST
  have hok : (stepR G a).2.ok = false := ho
  generalize (stepR G a).1 = G' at *
  generalize (stepR G a).2 = a' at *
  have HH := Lib.hid h
  have HL := Lib.hid hl
  clear h hl hr ha ht hs ho h4
  clear r0 r2 r3 r4
  go_enter Try.func44, Try.ntmps44
  go_wp2_with fail
  refine (HOV.out).mono ?_
  rintro e w1 ⟨rfl, rfl⟩
  go_wp2_with fail
  refine (HST.out).mono ?_
  rintro e w1 ⟨rfl, hr1, ha1, ht1⟩
  have h := HH.out
  have hl := HL.out
  have hl1 := hl.tch ht1 (by unfold RingD; omega)
  have h1 := h.tch ht1 (by unfold RingD; omega) (by unfold RingD; omega)
  have HOK := act_Ok ha1
  rw [hok] at HOK
  have HOK := Lib.hid HOK
  obtain ⟨q0, q1, q2, q3, q4⟩ := hl1.at_
  have HR1 := Lib.hid hr1
  have HA1 := Lib.hid ha1
  have HT1 := Lib.hid ht1
  have H1 := Lib.hid h1
  have HL1 := Lib.hid hl1
  clear h hl hl1 h1 hr1 ha1 ht1 r1
  go_wp2_with fail
  refine (HOK.out).mono ?_
  rintro e w2 ⟨rfl, rfl⟩
  obtain ⟨p0, p1, p2, p3⟩ := (H1.out.setFar (ab := ab) (by omega) (by omega) 3 (.int .i64 ((j + 1 : Nat) : Int))).at_
  obtain ⟨t0, t1, t2, t3, t4⟩ := (HL1.out.setJ (j + 1)).at_
  have HEND : Hid (∀ w', Below (w1.setCell ⟨ab, 3, none⟩ (.int .i64 ((j + 1 : Nat) : Int))).heap.size (w1.setCell ⟨ab, 3, none⟩ (.int .i64 ((j + 1 : Nat) : Int))) w' → Calls Try.prog 58 #[.pointer (some ⟨ab, 0, none⟩)] w' fun e w4 => e = .returned (.tuple #[]) ∧ RingAt w4 lo b (rbs k) G' ∧ ActAt w4 (rbs k) pb a' ∧ LaneAt w4 lb g n cap rbs c false ∧ LActAt w4 ab none (some ⟨pb, 0, none⟩) k (j + 1) ∧ Tch (fun x => RingD lo (rbs k) pb x ∨ x = lb ∨ x = ab) w w4) := fun w' hb => by
    have g1 := (H1.out.setFar (ab := ab) (by omega) (by omega) 3 (.int .i64 ((j + 1 : Nat) : Int))).below hb
    have g2 := (HL1.out.setJ (j + 1)).below hb
    refine (lact_end g1 g2 hab).mono fun e w4 hh => ?_
    obtain ⟨he, he1, he2, he3⟩ := hh
    exact ⟨he, ((HR1.out.setFar (by omega) _ _).below hb).tch he3 (by omega) (by omega), ((HA1.out.setOther (by omega) _ _).below hb).tch he3 (by omega), he1, he2, (((HT1.out.mono fun x _ hx => .inl hx).setCell (p := ⟨ab, 3, none⟩) (.inr (.inr rfl)) _).trans (Tch.of_below hb)).trans (he3.mono fun x _ hx => .inr hx)⟩
  have hjj : (((j + 1 : Nat) : Int) == (n : Int)) = true := by simp; omega
  have hz2 := HL1.out.lt
  have hJ : ((j + 1 : Nat) : Int) = (j : Int) + 1 := by omega
  rw [hJ] at HEND p0 p3 t0 t3 t4 hjj
  clear t1 t2 p1 p2 hJ
  go_wp2_with fail
  go_region
  go_wp2_with fail
  refine (HEND.out _ (by (repeat' (first | (with_reducible exact Below.refl _ _) | (with_reducible assumption) | (with_reducible refine Below.setCell ?_ ?_ _) | (with_reducible refine Below.alloc ?_ ?_ _) | (with_reducible refine below_drewN ?_ _) | (with_reducible refine Below.drew ?_) | go_size)))).mono ?_
  rintro e w4 ⟨rfl, hx⟩
  have HX := Lib.hid hx
  clear hx
  go_wp2
  go_ret
  exact ⟨by first | rfl | (simp; done), HX.out⟩
set_option maxRecDepth 20000 in
set_option maxHeartbeats 1600000 in
theorem lact_Step_next {w : World} {lo b : Nat} {G : RgS} {a : AcS} {lb g n cap : Nat} {rbs : Nat → Nat} {c : Nat} {tk : Bool} {ab pb k j : Nat} (h : LaneAt w lb g n cap rbs c tk) (hl : LActAt w ab (some ⟨lb, 0, none⟩) (some ⟨pb, 0, none⟩) k j) (hr : RingAt w lo b (rbs k) G) (ha : ActAt w (rbs k) pb a) (hab : lb < ab) (hpb : lb < pb) (hne : ab ≠ pb) (hk : k < n) (hj : j < n) (ht : G.m.t ≤ 4611686018427387900) (h4 : a.stage ≤ 4) (hs : (stepR G a).2.stage = 0) (ho : (stepR G a).2.ok = false) (hjn : j + 1 < n) {Gn : RgS} (hn : ∀ w', RingAt w' lo b (rbs k) (stepR G a).1 → Tch (RingD lo (rbs k) pb) w w' → RingAt w' lo b (rbs ((k + 1) % n)) Gn) (hpo : Gn.po = false) (hkK : rbs ((k + 1) % n) ≠ rbs k) :
    Calls Try.prog 44 #[.pointer (some ⟨ab, 0, none⟩)] w fun e w' => e = .returned (.bool false) ∧ ∃ pb', w.heap.size ≤ pb' ∧ RingAt w' lo b (rbs k) (stepR G a).1 ∧ RingAt w' lo b (rbs ((k + 1) % n)) { Gn with po := true } ∧ ActAt w' (rbs ((k + 1) % n)) pb' ⟨false, 1, 0, 0, false, 0⟩ ∧ LaneAt w' lb g n cap rbs c tk ∧ LActAt w' ab (some ⟨lb, 0, none⟩) (some ⟨pb', 0, none⟩) ((k + 1) % n) (j + 1) ∧ Tch (fun x => RingD lo (rbs k) pb x ∨ x = rbs ((k + 1) % n) ∨ x = ab) w w' := by
  have hglt := h.glt
  have hrlt := h.rlt k hk
  have hfew := h.few
  have hone := h.one
  have hrout := hr.out
  have HOV := Lib.hid (lact_Over hl)
  obtain ⟨r0, r1, r2, r3, r4⟩ := hl.at_
  have HST := act_Step hr ha (by omega) (by omega) ht h4
  have hcur : (k + 1) % n < n := Nat.mod_lt _ (by omega)
  obtain ⟨K, hK⟩ : ∃ K, K = (k + 1) % n := ⟨_, rfl⟩
  rw [← hK] at hcur hkK hn ⊢
  have HK := Lib.hid hK
  have HN := Lib.hid hn
  clear hK hn
  rw [decide_eq_true hs] at HST
  have HST := Lib.hid HST
  have hok : (stepR G a).2.ok = false := ho
  generalize (stepR G a).1 = G' at *
  generalize (stepR G a).2 = a' at *
  have HH := Lib.hid h
  have HL := Lib.hid hl
  clear h hl hr ha ht hs ho h4
  clear r0 r2 r3 r4
  go_enter Try.func44, Try.ntmps44
  go_wp2_with fail
  refine (HOV.out).mono ?_
  rintro e w1 ⟨rfl, rfl⟩
  go_wp2_with fail
  refine (HST.out).mono ?_
  rintro e w1 ⟨rfl, hr1, ha1, ht1⟩
  have HRN := Lib.hid (HN.out _ hr1 ht1)
  have hsz := ht1.size
  have h := HH.out
  have hl := HL.out
  have hl1 := hl.tch ht1 (by unfold RingD; omega)
  have h1 := h.tch ht1 (by unfold RingD; omega) (by unfold RingD; omega)
  have HOK := act_Ok ha1
  rw [hok] at HOK
  have HOK := Lib.hid HOK
  obtain ⟨q0, q1, q2, q3, q4⟩ := hl1.at_
  have HR1 := Lib.hid hr1
  have HA1 := Lib.hid ha1
  have HT1 := Lib.hid ht1
  have H1 := Lib.hid h1
  have HL1 := Lib.hid hl1
  clear h hl hl1 h1 hr1 ha1 ht1 r1
  go_wp2_with fail
  refine (HOK.out).mono ?_
  rintro e w2 ⟨rfl, rfl⟩
  obtain ⟨p0, p1, p2, p3⟩ := (H1.out.setFar (ab := ab) (by omega) (by omega) 3 (.int .i64 ((j + 1 : Nat) : Int))).at_
  obtain ⟨t0, t1, t2, t3, t4⟩ := (HL1.out.setJ (j + 1)).at_
  have HBH : Hid (∀ w', Below w1.heap.size w1 w' → Calls Try.prog 57 #[.pointer (some ⟨lb, 0, none⟩), .int .i64 (k : Int)] w' fun e w2 => e = .returned (.int .i64 (K : Int)) ∧ w' = w2) := fun w' hb => by
    have := lane_behind (H1.out.below hb) hk 0
    rwa [World.drewN_zero, ← HK.out] at this
  have HBH2 : Hid (∀ w', Below (w1.setCell ⟨ab, 3, none⟩ (.int .i64 ((j + 1 : Nat) : Int))).heap.size (w1.setCell ⟨ab, 3, none⟩ (.int .i64 ((j + 1 : Nat) : Int))) w' → Calls Try.prog 57 #[.pointer (some ⟨lb, 0, none⟩), .int .i64 (k : Int)] w' fun e w2 => e = .returned (.int .i64 (K : Int)) ∧ w' = w2) := fun w' hb => by
    have := lane_behind ((H1.out.setFar (ab := ab) (by omega) (by omega) 3 (.int .i64 ((j + 1 : Nat) : Int))).below hb) hk 0
    rwa [World.drewN_zero, ← HK.out] at this
  have hrK : rbs K < g := H1.out.rlt K hcur
  have habw : ab < w1.heap.size := HL1.out.lt
  have hrKo := HRN.out.out
  have HLK : Hid (∀ w', Below (w1.setCell ⟨ab, 3, none⟩ (.int .i64 ((j + 1 : Nat) : Int))).heap.size (w1.setCell ⟨ab, 3, none⟩ (.int .i64 ((j + 1 : Nat) : Int))) w' → Calls Try.prog 56 #[.pointer (some ⟨ab, 0, none⟩), .int .i64 (K : Int)] w' fun e w4 => e = .returned (.tuple #[]) ∧ ∃ pb', w.heap.size ≤ pb' ∧ RingAt w4 lo b (rbs k) G' ∧ RingAt w4 lo b (rbs K) { Gn with po := true } ∧ ActAt w4 (rbs K) pb' ⟨false, 1, 0, 0, false, 0⟩ ∧ LaneAt w4 lb g n cap rbs c tk ∧ LActAt w4 ab (some ⟨lb, 0, none⟩) (some ⟨pb', 0, none⟩) K (j + 1) ∧ Tch (fun x => RingD lo (rbs k) pb x ∨ x = rbs K ∨ x = ab) w w4) := fun w' hb => by
    have g1 := (H1.out.setFar (ab := ab) (by omega) (by omega) 3 (.int .i64 ((j + 1 : Nat) : Int))).below hb
    have g2 := (HL1.out.setJ (j + 1)).below hb
    have g3 := (HRN.out.setFar (ab := ab) (by omega) 3 (.int .i64 ((j + 1 : Nat) : Int))).below hb
    have hz : w1.heap.size ≤ w'.heap.size := by have := hb.size; simp [World.setCell] at this; exact this
    refine (lact_lookAt g1 g2 hab hcur g3 hpo).mono fun e w4 hh => ?_
    obtain ⟨he, he1, he2, he3, he4, he5⟩ := hh
    exact ⟨he, w'.heap.size, by omega, ((HR1.out.setFar (by omega) _ _).below hb).tch he5 (by omega) (by omega), he3, he4, he1, he2, (((HT1.out.mono fun x _ hx => .inl hx).setCell (p := ⟨ab, 3, none⟩) (.inr (.inr rfl)) _).trans (Tch.of_below hb)).trans (he5.mono fun x _ hx => .inr hx)⟩
  have hjj : (((j + 1 : Nat) : Int) == (n : Int)) = false := by simp; omega
  have hz2 := HL1.out.lt
  have hJ : ((j + 1 : Nat) : Int) = (j : Int) + 1 := by omega
  rw [hJ] at HLK HBH2 p0 p3 t0 t2 t3 t4 hjj
  clear t1 p1 p2 hJ HBH
  go_wp2_with fail
  go_region
  go_wp2_with fail
  go_region_with (first
    | (go_at_call 57; (with_reducible refine Calls.mono (HBH2.out _ (by (repeat' (first | (with_reducible exact Below.refl _ _) | (with_reducible assumption) | (with_reducible refine Below.setCell ?_ ?_ _) | (with_reducible refine Below.alloc ?_ ?_ _) | (with_reducible refine below_drewN ?_ _) | (with_reducible refine Below.drew ?_) | go_size)))) ?_); rintro e w2 ⟨rfl, rfl⟩)
    | (go_at_call 56; (with_reducible refine Calls.mono (HLK.out _ (by (repeat' (first | (with_reducible exact Below.refl _ _) | (with_reducible assumption) | (with_reducible refine Below.setCell ?_ ?_ _) | (with_reducible refine Below.alloc ?_ ?_ _) | (with_reducible refine below_drewN ?_ _) | (with_reducible refine Below.drew ?_) | go_size)))) ?_); rintro e w4 ⟨rfl, hx⟩; have HX := Lib.hid hx; clear hx))
  all_goals
    go_wp2
    go_ret
    exact ⟨by first | rfl | (simp; done), HX.out⟩
end Go.Proofs.Ytpojnknhmpmhjaa
