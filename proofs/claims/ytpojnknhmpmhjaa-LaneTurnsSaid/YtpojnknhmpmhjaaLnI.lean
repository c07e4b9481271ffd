/-
  A taking from a lane's rings, alone, to its end. No statement is proved here.
-/
import Derived.Test.YtpojnknhmpmhjaaLnH
set_option linter.unusedVariables false
namespace Go.Proofs.Ytpojnknhmpmhjaa
open Go.RowKit

set_option maxRecDepth 20000 in
set_option maxHeartbeats 3200000 in
theorem law15_take {w : World} {wb lo b lb gg cap n c : Nat} {v : Value} {rbs : Nat → Nat} {G : Nat → RgS} {m : MemS} {p t : Nat → Nat} {q : Nat → List Int} (h : WAt w wb lo b lb gg cap n v rbs G c false) (hq : RgsQ n G m p t q) (hpo : ∀ i, i < n → (G i).po = false) (htm : m.t ≤ 4611686018427380000) :
    Calls Try.prog 34 #[.pointer (some ⟨wb, 0, none⟩)] w fun e w' => ∃ ab pb kk jj a' G' m' t' q' c', e = .returned (.pointer (some ⟨ab, 0, none⟩)) ∧ Taken w w' wb lo b lb gg cap n v rbs G c m p t q ab pb kk jj a' G' m' t' q' c' := by
  have hcn := h.lane.cur
  have hone := h.lane.one
  have hfew := h.lane.few
  have hgl := h.lane.glt
  have hlw := h.lane.lt
  have hrow := h.row
  have q2 : w.cell? ⟨wb, 2, none⟩ = some (.pointer (some ⟨lb, 0, none⟩)) := hrow.cell (by omega)
  have HNX := Lib.hid (lane_Next h.lane (h.rings.ring c hcn) (hpo c hcn))
  obtain ⟨A, cp, hv, _, hcm⟩ := (Sl.of_own h.own).form
  unfold maxLen at hcm
  have hlo := h.lo3
  have hwr := h.gt c hcn
  have hrg := h.lane.rlt c hcn
  have HST : Hid (∀ w1, LaneAt w1 lb gg n cap rbs c true → LActAt w1 w.heap.size (some ⟨lb, 0, none⟩) (some ⟨w.heap.size + 1, 0, none⟩) c 0 → RingAt w1 lo b (rbs c) { G c with po := true } → ActAt w1 (rbs c) (w.heap.size + 1) ⟨false, 1, 0, 0, false, 0⟩ → Tch (fun x => x = lb ∨ x = rbs c) w w1 → ∃ G1 m1 a1, Tk w w1 wb lo b lb gg cap n v rbs G c m p t q w.heap.size 0 G1 m1 (w.heap.size + 1) a1 ∧ 1 ≤ a1.stage) := fun w1 hl hla hr ha ht => by
    have hc0 : (c + 0) % n = c := Nat.mod_eq_of_lt (by omega)
    have hk := kept_refl (G c) (G c).pu true
    have hqq := hq.go hcn (g' := { G c with po := true }) hk ((hq.que c hcn).po true)
    rw [upd_self, upd_self, upd_self] at hqq
    have hrg := h.rings.go hcn hr (fun i hi hik => (hq.others hcn hk i hi hik).1) ht fun i hi hik hd => by
      rcases hd with hd | hd
      · have := h.lane.rlt i hi; omega
      · exact hik (h.rings.inj i c hi hcn hd)
    refine ⟨updG G c { G c with po := true }, _, ⟨false, 1, 0, 0, false, 0⟩, ⟨h.goL hl hrg ht fun x hd => ?_, by rw [hc0]; exact hla, by rw [hc0]; exact ha, hqq, by rw [hc0, updG_same]; exact popK0 _ _ _, by omega, fun i hi => absurd hi (by omega), fun i hi => ?_, fun i hi => ?_, fun i hi hik => ?_, ?_, ?_, by omega, by omega, ⟨Nat.le_refl _, by omega⟩, by omega, ht.mono fun x _ hd => ?_⟩, Nat.le_refl _⟩
    · rcases hd with hd | hd
      · exact .inr (.inr (by omega))
      · exact .inr (.inl ⟨c, hcn, hd⟩)
    · by_cases e : i = c
      · subst e; rw [updG_same]
      · rw [updG_other _ e]; rfl
    · by_cases e : i = c
      · subst e; rw [updG_same]
      · rw [updG_other _ e]; rfl
    · rw [hc0] at hik
      rw [updG_other _ hik]; exact hpo i hi
    · show (G c).m.t + 1 ≤ m.t + 4 * ((0 : Nat) : Int) + ((1 : Nat) : Int)
      rw [hq.mem c hcn]; omega
    · show m.t ≤ (G c).m.t
      rw [hq.mem c hcn]; exact Int.le_refl _
    · rcases hd with hd | hd
      · exact .inr (.inr hd)
      · exact .inr (.inl ⟨c, hcn, hd⟩)
  have HTM := Lib.hid htm
  have e8 : wrap64 (8 * (n : Int)) = 8 * (n : Int) := IntWalk.wrap64_in _ (by omega)
  subst hv
  clear h hq hpo htm hrow
  go_enter Try.func34, Try.ntmps34
  go_wp2_with fail
  refine (HNX.out).mono ?_
  rintro e w1 ⟨rfl, hl, hla, hr, ha, ht⟩
  obtain ⟨G1, m1, a1, htk, hs1⟩ := HST.out w1 hl hla hr ha ht
  obtain ⟨ab, hab⟩ : ∃ ab, ab = w.heap.size := ⟨_, rfl⟩
  rw [← hab] at htk ⊢
  have HT0 : Hid (∃ j G m' pb a, Tk w w1 wb lo b lb gg cap n (.slice A n cp) rbs G1 c m p t q ab j G m' pb a ∧ 0 + 1 ≤ 4 * j + a.stage) ∨ True := .inr trivial
  have HT1 := Lib.hid htk
  clear hl hla hr ha ht htk HST HNX q2 HT0 hab
  go_wp2
  go_loopw [4] (fun i wr => ∃ k : Nat, i = .int .i64 k ∧ Hid (∃ j G' m' pb a, Tk w wr wb lo b lb gg cap n (.slice A n cp) rbs G c m p t q ab j G' m' pb a ∧ k + 1 ≤ 4 * j + a.stage)) (fun i _ => 8 * n - (intOf i).toNat)
  case atStart => exact ⟨0, rfl, 0, G1, m1, _, a1, HT1.out, by omega⟩
  case round =>
    obtain ⟨k, rfl, HK⟩ := hrel
    obtain ⟨j, G', m', pb, a, htk, hle⟩ := HK.out
    have hjn := htk.jn
    have hs4 : a.stage ≤ 4 := htk.know.2.2.1
    have hk8 : (k : Int) < 8 * (n : Int) := by omega
    have hk8' : k < 8 * n := by omega
    have q1 : (by rename_i wr _; exact wr : World).cell? ⟨wb, 1, none⟩ = some (.slice A n cp) := htk.at_.row.cell (by omega)
    have HS := Lib.hid (tk_step htk HTM.out)
    have HLE := Lib.hid hle
    clear htk HK hle hjn hs4 HT1
    go_wp2_with fail
    refine (HS.out).mono ?_
    intro e w2 hh
    rcases hh with ⟨rfl, j', G2, m2, pb2, a2, htk2, hst⟩ | ⟨rfl, pb2, kk, jj, a2, G2, m2, t2, q2, c2, htd⟩
    · have HT2 := Lib.hid htk2
      have HL2 := Lib.hid (show k + 1 + 1 ≤ 4 * j' + a2.stage by have := HLE.out; omega)
      clear htk2 hst HS HLE q1
      go_wp2
      go_roundw
      case rel => exact ⟨k + 1, by go_num, j', G2, m2, pb2, a2, HT2.out, HL2.out⟩
      case measure => simp [intOf]; omega
    · have HT2 := Lib.hid htd
      have HOV := Lib.hid (lact_Over htd.act)
      clear htd HS HLE q1
      go_wp2_with fail
      refine (HOV.out).mono ?_
      rintro e w3 ⟨rfl, rfl⟩
      go_wp2
      go_ret
      exact ⟨ab, pb2, kk, jj, a2, G2, m2, t2, q2, c2, rfl, HT2.out⟩
end Go.Proofs.Ytpojnknhmpmhjaa
