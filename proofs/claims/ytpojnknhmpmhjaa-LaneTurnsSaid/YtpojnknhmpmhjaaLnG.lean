/-
  A number is put into a ring of a lane's world. No statement is proved here.
-/
import Derived.Test.YtpojnknhmpmhjaaLnF
import Derived.Test.YtpojnknhmpmhjaaRgU
set_option linter.unusedVariables false
namespace Go.Proofs.Ytpojnknhmpmhjaa
open Go.RowKit

/-- The memory's blocks, and one more. -/
def MemD (lo rb : Nat) (x : Nat) : Prop := (lo ≤ x ∧ x < lo + 3) ∨ x = rb
theorem WAt.go {w w' : World} {wb lo b lb g cap n c k : Nat} {v : Value} {rbs : Nat → Nat} {G : Nat → RgS} {tk : Bool} (h : WAt w wb lo b lb g cap n v rbs G c tk) (hk : k < n) {g' : RgS} (hr : RingAt w' lo b (rbs k) g') (hC : ∀ i, i < n → i ≠ k → g'.m.C = (G i).m.C)
    {D : Nat → Prop} (ht : Tch D w w') (hD : ∀ x, x < w.heap.size → D x → MemD lo (rbs k) x) : WAt w' wb lo b lb g cap n v rbs (updG G k g') c tk := by
  have hT := ht.mono (E := MemD lo (rbs k)) hD
  have hrk := h.lane.rlt k hk
  have hgk := h.gt k hk
  have hlo := h.lo3
  have hgl := h.lane.glt
  refine ⟨rowIs_tch h.row hT (by unfold MemD; omega), own_tch h.own hT (fun j hj hd => ?_), h.lane.tch hT (by unfold MemD; omega) (by unfold MemD; omega), h.rings.go hk hr hC hT (fun i hi hik hd => ?_), h.lo3, h.gt, h.ne, h.vlt⟩
  · have := (h.own.lt j hj).1
    rcases hd with hd | hd
    · omega
    · exact h.ne k hk (hd ▸ hj)
  · have := h.gt i hi
    rcases hd with hd | hd
    · omega
    · exact hik (h.rings.inj i k hi hk hd)
/-- What stays of all rings but for one: how they are. -/
structure Alike (n : Nat) (G G' : Nat → RgS) : Prop where
  sz : ∀ i, i < n → (G' i).sz = (G i).sz
  pu : ∀ i, i < n → (G' i).pu = (G i).pu
  po : ∀ i, i < n → (G' i).po = (G i).po
theorem Alike.refl (n : Nat) (G : Nat → RgS) : Alike n G G := ⟨fun _ _ => rfl, fun _ _ => rfl, fun _ _ => rfl⟩
theorem Alike.trans {n : Nat} {A B C : Nat → RgS} (h : Alike n A B) (k : Alike n B C) : Alike n A C :=
  ⟨fun i hi => (k.sz i hi).trans (h.sz i hi), fun i hi => (k.pu i hi).trans (h.pu i hi), fun i hi => (k.po i hi).trans (h.po i hi)⟩
theorem alike_upd {n k : Nat} {G : Nat → RgS} {g' : RgS} (h1 : g'.sz = (G k).sz) (h2 : g'.pu = (G k).pu) (h3 : g'.po = (G k).po) : Alike n G (updG G k g') :=
  ⟨fun i hi => by by_cases e : i = k
                  · subst e; rw [updG_same]; exact h1
                  · rw [updG_other _ e]; rfl,
   fun i hi => by by_cases e : i = k
                  · subst e; rw [updG_same]; exact h2
                  · rw [updG_other _ e]; rfl,
   fun i hi => by by_cases e : i = k
                  · subst e; rw [updG_same]; exact h3
                  · rw [updG_other _ e]; rfl⟩
/-- What a put makes. -/
structure PutDid (w : World) (wb lo b lb g cap n : Nat) (v : Value) (rbs : Nat → Nat) (G : Nat → RgS) (c : Nat) (tk : Bool) (m : MemS) (p t : Nat → Nat) (q : Nat → List Int) (i : Nat) (x : Int) (w' : World) (G' : Nat → RgS) (m' : MemS) (p' : Nat → Nat) : Prop where
  at_ : WAt w' wb lo b lb g cap n v rbs G' c tk
  que : RgsQ n G' m' p' t (upd q i (if (q i).length < (G i).sz then q i ++ [x] else q i))
  pn : ∀ j, p' j ≤ p j + 1
  alike : Alike n G G'
  tm : m.t ≤ m'.t ∧ m'.t ≤ m.t + 4
  tch : Tch (MemD lo (rbs i)) w w'
set_option maxRecDepth 20000 in
set_option maxHeartbeats 3200000 in
theorem law15_put {w : World} {wb lo b lb gg cap n c i : Nat} {v : Value} {rbs : Nat → Nat} {G : Nat → RgS} {tk : Bool} {m : MemS} {p t : Nat → Nat} {q : Nat → List Int} (h : WAt w wb lo b lb gg cap n v rbs G c tk) (hq : RgsQ n G m p t q) (hi : i < n) (hpu : (G i).pu = false) (htm : m.t ≤ 4611686018427380000) (hf : p i + 1 ≤ 1000000) (x : Int) :
    Calls Try.prog 40 #[.pointer (some ⟨wb, 0, none⟩), .int .i64 (i : Int), .int .u64 x] w fun e w' => ∃ G' m' p', e = .returned (.bool (decide ((q i).length < (G i).sz))) ∧ PutDid w wb lo b lb gg cap n v rbs G c tk m p t q i x w' G' m' p' := by
  have hmem := hq.mem i hi
  have hrow := h.row
  have hout := (h.rings.ring i hi).out
  have hpe := (push_end 4 ((hq.que i hi).pu true) (pushK0 _ (p i) (t i) x) hf (by simp) (by omega)).1
  have hfit : Fits { G i with pu := true } := ((hq.que i hi).pu true).fits
  have hfar := fun x => iterR_far 4 (g := { G i with pu := true }) (a := ⟨true, 1, 0, x, false, 0⟩) hfit (by simp) (by simp)
  obtain ⟨g0, hg0⟩ : ∃ g0 : RgS, g0 = { G i with pu := true } := ⟨_, rfl⟩
  obtain ⟨a0, ha0⟩ : ∃ a0 : AcS, a0 = ⟨true, 1, 0, x, false, 0⟩ := ⟨_, rfl⟩
  have hs : a0.stage = 1 := by rw [ha0]
  have htg : g0.m.t ≤ 4611686018427380000 := by rw [hg0]; show (G i).m.t ≤ _; rw [hmem]; exact htm
  have hfar := hfar x
  rw [← hg0, ← ha0] at hpe hfar
  have h4 : (iterR 4 (g0, a0)).2.stage = 0 := hpe.stage
  -- what is left at the end
  have HFIN : Hid (∀ w1 w2, Tch (fun k => k = rbs i) w w1 → RingAt w2 lo b (rbs i) (iterR 4 (g0, a0)).1 → Tch (RingD lo (rbs i) w.heap.size) w1 w2 → (iterR 4 (g0, a0)).2.ok = decide ((q i).length < (G i).sz) ∧ ∃ G' m' p', PutDid w wb lo b lb gg cap n v rbs G c tk m p t q i x w2 G' m' p') := fun w1 w2 ht1 hr2 ht2 => by
    have hT : Tch (fun y => RingD lo (rbs i) w.heap.size y) w w2 := (ht1.mono fun y _ e => .inr (.inl e)).trans ht2
    have hD : ∀ y, y < w.heap.size → RingD lo (rbs i) w.heap.size y → MemD lo (rbs i) y := fun y hy hd => by
      rcases hd with hd | hd | hd
      · exact .inl hd
      · exact .inr hd
      · omega
    generalize iterR 4 (g0, a0) = y at *
    obtain ⟨g', a'⟩ := y
    have hk : Kept (G i) g' := ⟨by have := hpe.ba; rw [hg0] at this; exact this, by have := hpe.sz; rw [hg0] at this; exact this, by have := hpe.C; rw [hg0] at this; exact this, fun y hy => by have := hfar y (by rw [hg0]; exact hy); rw [hg0] at this; exact this⟩
    have hat := h.go hi hr2 (fun j hj hji => (hq.others hi hk j hj hji).1) hT hD
    have hal : Alike n G (updG G i g') := alike_upd hk.sz (by have := hpe.pu; rw [hpu]; exact this) (by have := hpe.po; rw [hg0] at this; exact this)
    have htt : m.t ≤ g'.m.t ∧ g'.m.t ≤ m.t + 4 := by
      have h1 := hpe.t1
      have h2 := hpe.t2
      rw [hg0] at h1 h2
      have e : (G i).m.t = m.t := by rw [hmem]
      simp only at h1 h2
      omega
    have hsz : g0.sz = (G i).sz := by rw [hg0]
    rcases hpe.res with ⟨r1, rl, rr, _⟩ | ⟨r1, rl, rr, _⟩
    · rw [hsz] at rl
      have hn : a'.num = x := by have := hpe.num; rw [ha0] at this; exact this
      refine ⟨by rw [decide_eq_true rl]; exact r1, updG G i g', g'.m, upd p i (p i + 1), hat, ?_, fun j => ?_, hal, htt, hT.mono hD⟩
      · rw [if_pos rl]
        have := hq.go hi hk rr
        rw [ha0] at this
        have e : upd t i (t i) = t := funext fun j => by unfold upd; split <;> simp_all
        rw [e] at this
        exact this
      · unfold upd; split
        · rename_i e; subst e; omega
        · omega
    · rw [hsz] at rl
      have rl' : ¬ (q i).length < (G i).sz := by omega
      refine ⟨by rw [decide_eq_false rl']; exact r1, updG G i g', g'.m, upd p i (p i), hat, ?_, fun j => ?_, hal, htt, hT.mono hD⟩
      · rw [if_neg rl']
        have := hq.go hi hk rr
        have e : upd t i (t i) = t := funext fun j => by unfold upd; split <;> simp_all
        rw [e] at this
        exact this
      · unfold upd; split
        · rename_i e; subst e; omega
        · omega
  have HPU := ring_Push (h.rings.ring i hi) hpu x
  have hg0' : ({ m := (G i).m, ba := (G i).ba, sz := (G i).sz, st := (G i).st, pu := true, po := (G i).po } : RgS) = g0 := by rw [hg0]
  have HPU2 : Hid (Calls Try.prog 20 #[.pointer (some ⟨rbs i, 0, none⟩), .int .u64 x] w fun e w' => e = .returned (.pointer (some ⟨w.heap.size, 0, none⟩)) ∧ RingAt w' lo b (rbs i) g0 ∧ ActAt w' (rbs i) w.heap.size a0 ∧ Tch (fun k => k = rbs i) w w') := by rw [hg0, ha0]; exact HPU
  obtain ⟨A, cp, hv, hkc, hcm⟩ := (Sl.of_own h.own).form
  obtain ⟨rg, rcap, hv2, h1c, h2c, h3c, h4c, h5c⟩ := own_cells h.own (by omega)
  subst hv2
  unfold maxLen at h2c
  have q0 : w.cell? ⟨wb, 1, none⟩ = some (.slice (some ⟨rg, 0, none⟩) n rcap) := hrow.cell (by omega)
  have q1 : w.cell? ⟨rg, i, none⟩ = some (.pointer (some ⟨rbs i, 0, none⟩)) := (h5c i hi).trans (ptv_at _ hi)
  have hn64 := h.lane.few
  have hrlt : rbs i < w.heap.size := (h.rings.ring i hi).lt
  generalize decide ((q i).length < (G i).sz) = zz at *
  have HS := Lib.hid (fun (w' : World) (g' : RgS) (a' : AcS) hr ha ht hs => act_Step (w := w') (lo := lo) (b := b) (rb := rbs i) (ab := w.heap.size) (g := g') (a := a') hr ha (by omega) (by omega) ht hs)
  have HI := Lib.hid (iter_stage g0 a0 (by omega))
  have HE : Hid (∀ n, n ≤ 4 → (iterR n (g0, a0)).2.stage = 0 → iterR 4 (g0, a0) = iterR n (g0, a0)) := fun n hn h0 => by
    rw [show 4 = n + (4 - n) by omega, iterR_add]
    exact iterR_over _ _ h0
  have HADD : Hid (∀ n, iterR (n + 1) (g0, a0) = stepR (iterR n (g0, a0)).1 (iterR n (g0, a0)).2) := fun n => iterR_add 1 n (g0, a0)
  have HS1 := Lib.hid hs
  have HT := Lib.hid htg
  have H4 := Lib.hid h4
  clear HPU hg0' hg0 ha0 hpe hfar hfit hs htg h4 h hq hrow hv hkc hcm h1c h3c h4c h5c hmem htm hf
  go_enter Try.func40, Try.ntmps40
  go_wp2_with fail
  refine (HPU2.out).mono ?_
  rintro e w1 ⟨rfl, hr, ha, ht1⟩
  have HX := Lib.hid (And.intro hr (And.intro ha ht1))
  have hz1 := ht1.size
  clear hr ha ht1 HPU2 q0 q1
  go_wp2
  go_loopw [8] (fun i' wr => ∃ k : Nat, k ≤ 3 ∧ i' = .int .i64 k ∧ Hid ((iterR k (g0, a0)).2.stage ≠ 0 ∧ RingAt wr lo b (rbs i) (iterR k (g0, a0)).1 ∧ ActAt wr (rbs i) w.heap.size (iterR k (g0, a0)).2 ∧ Tch (RingD lo (rbs i) w.heap.size) w1 wr)) (fun i' _ => 5 - (intOf i').toNat)
  case atStart => exact ⟨0, by omega, rfl, by show a0.stage ≠ 0; have := HS1.out; omega, HX.out.1, HX.out.2.1, Tch.refl _ _⟩
  case round =>
    obtain ⟨k, hk, rfl, HR⟩ := hrel
    have g0' : (0 : Int) ≤ (k : Int) := Int.natCast_nonneg _
    have g1' : (k : Int) < 8 := by omega
    obtain ⟨i1, i2, i3⟩ := HI.out k (by have := HS1.out; omega)
    have HST := Lib.hid (HS.out _ _ _ HR.out.2.1 HR.out.2.2.1 (by have := HT.out; omega) i2)
    rw [← HADD.out k] at HST
    have HN := Lib.hid (HE.out (k + 1) (by omega))
    have HTT := Lib.hid HR.out.2.2.2
    have HLAST : Hid (k = 3 → (iterR (k + 1) (g0, a0)).2.stage = 0) := fun e => by subst e; exact H4.out
    clear i1 i2 i3 HR HADD
    obtain ⟨z, hz⟩ : ∃ z, z = decide ((iterR (k + 1) (g0, a0)).2.stage = 0) := ⟨_, rfl⟩
    rw [← hz] at HST
    have HZ := Lib.hid hz
    clear hz
    go_wp2_with fail
    refine (HST.out).mono ?_
    rintro e w2 ⟨rfl, hr2, ha2, ht2⟩
    have HY := Lib.hid (And.intro hr2 (And.intro ha2 (HTT.out.trans ht2)))
    clear hr2 ha2 ht2 HST
    cases z
    · have h0 : ¬ (iterR (k + 1) (g0, a0)).2.stage = 0 := of_decide_eq_false HZ.out.symm
      have hk3 : k + 1 ≤ 3 := by
        rcases (show k = 3 ∨ k + 1 ≤ 3 by omega) with e | e
        · exact absurd (HLAST.out e) h0
        · exact e
      have H0 := Lib.hid h0
      clear h0
      go_wp2
      go_roundw
      case rel => exact ⟨k + 1, hk3, by go_num, H0.out, HY.out.1, HY.out.2.1, HY.out.2.2⟩
      case measure => simp [intOf]; omega
    · have h0 : (iterR (k + 1) (g0, a0)).2.stage = 0 := of_decide_eq_true HZ.out.symm
      have HEQ := HN.out h0
      rw [← HEQ] at HY
      obtain ⟨hok, G', m', p', hp⟩ := HFIN.out w1 w2 HX.out.2.2 HY.out.1 HY.out.2.2
      have hokc := act_Ok HY.out.2.1
      rw [hok] at hokc
      have HOK := Lib.hid hokc
      have HP := Lib.hid hp
      clear h0 HEQ hok hp hokc
      go_wp2_with fail
      refine (HOK.out).mono ?_
      rintro e w3 ⟨rfl, rfl⟩
      go_wp2
      go_ret
      exact ⟨G', m', p', by first | rfl | (simp; done), HP.out⟩
end Go.Proofs.Ytpojnknhmpmhjaa
