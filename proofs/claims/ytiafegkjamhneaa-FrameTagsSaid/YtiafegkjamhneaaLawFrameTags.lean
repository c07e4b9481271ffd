/-
  Of all frames the program tells which VLAN and priority their tag tells. No condition.
-/
import Derived.Test.YtiafegkjamhneaaRows
import Derived.Test.YtiafegkjamhneaaFrameP
import Derived.Test.YtiafegkjamhneaaFrameW
import Derived.Test.YtiafegkjamhneaaOpenFr
import Derived.Deep.RegionHeld3
import Derived.IntWalk
import Derived.WalkKit
import Derived.ProofKit
import Derived.OpenShut
namespace Go.Proofs.Ytiafegkjamhneaa.frameTags
open Go.ChangeShapes Go.WideShapes Go.ChangeAt Go.RowKit
open Go.ChangeMaps (open_string)
set_option linter.unusedVariables false

theorem own : ownKnob Try.prog.godebug = none := by kernel_rfl
theorem keep7 {w w' : World} {b g o : Nat} {v0 v1 v2 v3 v4 v5 v6 : Value} (h : w.cell? ⟨b, 0, none⟩ = some v0 ∧ w.cell? ⟨b, 1, none⟩ = some v1 ∧ w.cell? ⟨b, 2, none⟩ = some v2 ∧ w.cell? ⟨b, 3, none⟩ = some v3 ∧ w.cell? ⟨b, 4, none⟩ = some v4 ∧ w.cell? ⟨b, 5, none⟩ = some v5 ∧ w.cell? ⟨g, o, none⟩ = some v6) (hk : ∀ p : Addr, p.block = b ∨ p.block = g → w'.cell? p = w.cell? p) :
    w'.cell? ⟨b, 0, none⟩ = some v0 ∧ w'.cell? ⟨b, 1, none⟩ = some v1 ∧ w'.cell? ⟨b, 2, none⟩ = some v2 ∧ w'.cell? ⟨b, 3, none⟩ = some v3 ∧ w'.cell? ⟨b, 4, none⟩ = some v4 ∧ w'.cell? ⟨b, 5, none⟩ = some v5 ∧ w'.cell? ⟨g, o, none⟩ = some v6 :=
  ⟨(hk _ (.inl rfl)).trans h.1, (hk _ (.inl rfl)).trans h.2.1, (hk _ (.inl rfl)).trans h.2.2.1, (hk _ (.inl rfl)).trans h.2.2.2.1, (hk _ (.inl rfl)).trans h.2.2.2.2.1, (hk _ (.inl rfl)).trans h.2.2.2.2.2.1, (hk _ (.inr rfl)).trans h.2.2.2.2.2.2⟩

set_option maxHeartbeats 3200000 in
theorem walk (W : World) (a0 : Fr) (A0 : Option Addr) (k0 c0 : Nat) (bd0 : a0.dst < 18446744073709551616) (bs0 : a0.src < 18446744073709551616) (bc0 : a0.tci < 65536) (by_0 : a0.typ < 65536) (bl0 : a0.load.length = k0) (bk0 : k0 ≤ 140737488351232) (b0 : Sl W W.heap.size 1 (.slice A0 k0 c0) k0 (bv a0.load)) (l0 : ∀ x ∈ a0.load, x < 256) :
    Calls Try.prog 5 #[frV a0 (.slice A0 k0 c0)] W (Says (.bool true) W) := by
  obtain ⟨d, s, t, c, y, l⟩ := a0
  simp only at *
  unfold frV
  simp only
  cases t
  · skip
    have hPr := fun W => frame_PrioT d s c y false (.slice none 0 0) bc0 W
    simp only [if_false, Bool.false_eq_true] at hPr
    have hTo : ∀ W0, Sl W0 W.heap.size 1 (.slice A0 k0 c0) k0 (bv l) → W.heap.size ≤ W0.heap.size → Calls Try.prog 22 #[.agg #[.int .u64 (d : Nat), .int .u64 (s : Nat), .bool false, .int .u16 (c : Nat), .int .u16 (y : Nat), .slice A0 k0 c0]] W0 (fun e w' => ∃ A c1, e = .returned (.agg #[.int .u64 (d : Nat), .int .u64 (s : Nat), .bool false, .int .u16 (c : Nat), .int .u16 (y : Nat), .slice A k0 c1]) ∧ Below W0.heap.size W0 w') := by
      intro W0 h1 h2
      refine (law_To (f := ⟨d, s, false, c, y, l⟩) bl0 (by omega) h1 h2).mono fun e w' h => ?_
      obtain ⟨A, c1, he, _, hb⟩ := h
      exact ⟨A, c1, he, hb⟩
    have hVd := fun W => frame_VidT d s c y false (.slice none 0 0) bc0 W
    obtain ⟨V, hV⟩ : ∃ V, V = c % 4096 := ⟨_, rfl⟩
    have hVi : (c : Int) % 4096 = (V : Int) := by omega
    rw [← hV] at hVd
    have hVl : V < 4096 := by omega
    obtain ⟨p, hp⟩ : ∃ p, p = c / 8192 := ⟨_, rfl⟩
    have hpi : (c : Int) / 8192 = (p : Int) := by omega
    have hpl : p < 8 := by omega
    skip
    have HTO := Lib.hid hTo
    have HVD := Lib.hid hVd
    have HPR := Lib.hid hPr
    have HS := Lib.hid b0
    clear hTo hVd hPr b0 hV hp bd0 bs0 l0 bl0
    go_enter Try.func5, Try.ntmps5
    go_wp2_with fail
    refine (HTO.out _ (HS.out.alloc (Nat.le_refl _) _) (by simp)).mono ?_
    rintro e w1 ⟨A1, c1, rfl, hb1⟩
    have qc : w1.cell? ⟨W.heap.size, 3, none⟩ = some (.int .u16 (c : Nat)) := by rw [(bcell hb1).1 _ 3 (by simp)]; simp [go_sem]
    have qt : w1.cell? ⟨W.heap.size, 2, none⟩ = some (.bool false) := by rw [(bcell hb1).1 _ 2 (by simp)]; simp [go_sem]
    have hB1 : Below W.heap.size W w1 := ((Below.refl _ _).alloc (Nat.le_refl _) _).trans (hb1.mono (by simp))
    have hz1 : W.heap.size + 1 ≤ w1.heap.size := by simpa using hb1.size
    have qca : ∀ o, (w1.alloc o).cell? ⟨W.heap.size, 3, none⟩ = some (.int .u16 (c : Nat)) := fun o => (World.cell?_alloc_lt w1 _ _ (by show W.heap.size < _; omega)).trans qc
    have qta : ∀ o, (w1.alloc o).cell? ⟨W.heap.size, 2, none⟩ = some (.bool false) := fun o => (World.cell?_alloc_lt w1 _ _ (by show W.heap.size < _; omega)).trans qt
    clear hb1
    go_wp2_with fail
    obtain ⟨w2, hw2⟩ : ∃ w2, w2 = w1.alloc (.cells #[.int .u64 (d : Nat), .int .u64 (s : Nat), .bool false, .int .u16 (c : Nat), .int .u16 (y : Nat), .slice none 0 0] 27) := ⟨_, rfl⟩
    rw [← hw2]
    have s0 : w2.cell? ⟨w1.heap.size, 0, none⟩ = some (.int .u64 (d : Nat)) := by rw [hw2]; simp [go_sem]
    have s1 : w2.cell? ⟨w1.heap.size, 1, none⟩ = some (.int .u64 (s : Nat)) := by rw [hw2]; simp [go_sem]
    have s2 : w2.cell? ⟨w1.heap.size, 2, none⟩ = some (.bool false) := by rw [hw2]; simp [go_sem]
    have s3 : w2.cell? ⟨w1.heap.size, 3, none⟩ = some (.int .u16 (c : Nat)) := by rw [hw2]; simp [go_sem]
    have s4 : w2.cell? ⟨w1.heap.size, 4, none⟩ = some (.int .u16 (y : Nat)) := by rw [hw2]; simp [go_sem]
    have s5 : w2.cell? ⟨w1.heap.size, 5, none⟩ = some (.slice none 0 0) := by rw [hw2]; simp [go_sem]
    have s6 : w2.cell? ⟨W.heap.size, 3, none⟩ = some (.int .u16 (c : Nat)) := by rw [hw2]; exact qca _
    have hB2 : Below W.heap.size W w2 := by rw [hw2]; exact hB1.alloc (by omega) _
    have hz2 : w1.heap.size + 1 ≤ w2.heap.size := by rw [hw2]; simp
    clear hw2 qca qta qc qt hB1
    have hVt : (c : Int).tmod 4096 = (V : Int) := by rw [Int.tmod_eq_emod_of_nonneg (by omega)]; exact hVi
    have hVw : IntKind.i64.wrap (V : Int) = (V : Int) := IntWalk.i64_in _ (by omega)
    go_region_held3 (fun w' => w'.cell? ⟨w1.heap.size, 0, none⟩ = some (.int .u64 (d : Nat)) ∧ w'.cell? ⟨w1.heap.size, 1, none⟩ = some (.int .u64 (s : Nat)) ∧ w'.cell? ⟨w1.heap.size, 2, none⟩ = some (.bool false) ∧ w'.cell? ⟨w1.heap.size, 3, none⟩ = some (.int .u16 (c : Nat)) ∧ w'.cell? ⟨w1.heap.size, 4, none⟩ = some (.int .u16 (y : Nat)) ∧ w'.cell? ⟨w1.heap.size, 5, none⟩ = some (.slice none 0 0) ∧ w'.cell? ⟨W.heap.size, 3, none⟩ = some (.int .u16 (c : Nat)))
      (first | (with_reducible exact ⟨s0, s1, s2, s3, s4, s5, s6⟩) | (with_reducible exact keep7 (by assumption) (fun p hp => hb.cell (by rcases hp with hp | hp <;> rw [hp] <;> go_size))) | go_keep)
      (first
        | (go_at_call 17; (with_reducible refine Calls.mono (told02 _) ?_); rintro e w3 ⟨rfl, hb⟩; have hB3 : Below W.heap.size W w3 := Below.trans (by (repeat' (first | (with_reducible exact Below.refl _ _) | (with_reducible assumption) | (with_reducible refine Below.setCell ?_ ?_ _) | (with_reducible refine Below.alloc ?_ ?_ _) | (with_reducible refine below_drewN ?_ _) | (with_reducible refine Below.drew ?_) | go_size))) (hb.mono (by go_size)); have hz3 : w1.heap.size + 1 ≤ w3.heap.size := (by have := hb.size; (try simp at this); omega))
        | (go_at_call 24; (with_reducible refine Calls.mono (HVD.out _) ?_); rintro e w4 ⟨rfl, hb⟩; have hB4 : Below W.heap.size W w4 := Below.trans (by (repeat' (first | (with_reducible exact Below.refl _ _) | (with_reducible assumption) | (with_reducible refine Below.setCell ?_ ?_ _) | (with_reducible refine Below.alloc ?_ ?_ _) | (with_reducible refine below_drewN ?_ _) | (with_reducible refine Below.drew ?_) | go_size))) (hb.mono (by go_size)); have hz4 : w1.heap.size + 1 ≤ w4.heap.size := (by have := hb.size; (try simp at this); omega))
        | (go_at_call 25; (with_reducible refine Calls.mono (HPR.out _) ?_); rintro e w5 ⟨rfl, hb⟩; have hB5 : Below W.heap.size W w5 := Below.trans (by (repeat' (first | (with_reducible exact Below.refl _ _) | (with_reducible assumption) | (with_reducible refine Below.setCell ?_ ?_ _) | (with_reducible refine Below.alloc ?_ ?_ _) | (with_reducible refine below_drewN ?_ _) | (with_reducible refine Below.drew ?_) | go_size))) (hb.mono (by go_size)); have hz5 : w1.heap.size + 1 ≤ w5.heap.size := (by have := hb.size; (try simp at this); omega)))
    all_goals
      go_wp2
      go_ret
      exact ⟨by simp, by assumption⟩
  · skip
    have hPr := fun W => frame_PrioT d s c y true (.slice none 0 0) bc0 W
    simp only [if_true] at hPr
    have hTo : ∀ W0, Sl W0 W.heap.size 1 (.slice A0 k0 c0) k0 (bv l) → W.heap.size ≤ W0.heap.size → Calls Try.prog 22 #[.agg #[.int .u64 (d : Nat), .int .u64 (s : Nat), .bool true, .int .u16 (c : Nat), .int .u16 (y : Nat), .slice A0 k0 c0]] W0 (fun e w' => ∃ A c1, e = .returned (.agg #[.int .u64 (d : Nat), .int .u64 (s : Nat), .bool true, .int .u16 (c : Nat), .int .u16 (y : Nat), .slice A k0 c1]) ∧ Below W0.heap.size W0 w') := by
      intro W0 h1 h2
      refine (law_To (f := ⟨d, s, true, c, y, l⟩) bl0 (by omega) h1 h2).mono fun e w' h => ?_
      obtain ⟨A, c1, he, _, hb⟩ := h
      exact ⟨A, c1, he, hb⟩
    have hVd := fun W => frame_VidT d s c y true (.slice none 0 0) bc0 W
    obtain ⟨V, hV⟩ : ∃ V, V = c % 4096 := ⟨_, rfl⟩
    have hVi : (c : Int) % 4096 = (V : Int) := by omega
    rw [← hV] at hVd
    have hVl : V < 4096 := by omega
    obtain ⟨p, hp⟩ : ∃ p, p = c / 8192 := ⟨_, rfl⟩
    have hpi : (c : Int) / 8192 = (p : Int) := by omega
    have hpl : p < 8 := by omega
    rw [← hp] at hPr
    have HTO := Lib.hid hTo
    have HVD := Lib.hid hVd
    have HPR := Lib.hid hPr
    have HS := Lib.hid b0
    clear hTo hVd hPr b0 hV hp bd0 bs0 l0 bl0
    go_enter Try.func5, Try.ntmps5
    go_wp2_with fail
    refine (HTO.out _ (HS.out.alloc (Nat.le_refl _) _) (by simp)).mono ?_
    rintro e w1 ⟨A1, c1, rfl, hb1⟩
    have qc : w1.cell? ⟨W.heap.size, 3, none⟩ = some (.int .u16 (c : Nat)) := by rw [(bcell hb1).1 _ 3 (by simp)]; simp [go_sem]
    have qt : w1.cell? ⟨W.heap.size, 2, none⟩ = some (.bool true) := by rw [(bcell hb1).1 _ 2 (by simp)]; simp [go_sem]
    have hB1 : Below W.heap.size W w1 := ((Below.refl _ _).alloc (Nat.le_refl _) _).trans (hb1.mono (by simp))
    have hz1 : W.heap.size + 1 ≤ w1.heap.size := by simpa using hb1.size
    have qca : ∀ o, (w1.alloc o).cell? ⟨W.heap.size, 3, none⟩ = some (.int .u16 (c : Nat)) := fun o => (World.cell?_alloc_lt w1 _ _ (by show W.heap.size < _; omega)).trans qc
    have qta : ∀ o, (w1.alloc o).cell? ⟨W.heap.size, 2, none⟩ = some (.bool true) := fun o => (World.cell?_alloc_lt w1 _ _ (by show W.heap.size < _; omega)).trans qt
    clear hb1
    go_wp2_with fail
    obtain ⟨w2, hw2⟩ : ∃ w2, w2 = w1.alloc (.cells #[.int .u64 (d : Nat), .int .u64 (s : Nat), .bool true, .int .u16 (c : Nat), .int .u16 (y : Nat), .slice none 0 0] 27) := ⟨_, rfl⟩
    rw [← hw2]
    have s0 : w2.cell? ⟨w1.heap.size, 0, none⟩ = some (.int .u64 (d : Nat)) := by rw [hw2]; simp [go_sem]
    have s1 : w2.cell? ⟨w1.heap.size, 1, none⟩ = some (.int .u64 (s : Nat)) := by rw [hw2]; simp [go_sem]
    have s2 : w2.cell? ⟨w1.heap.size, 2, none⟩ = some (.bool true) := by rw [hw2]; simp [go_sem]
    have s3 : w2.cell? ⟨w1.heap.size, 3, none⟩ = some (.int .u16 (c : Nat)) := by rw [hw2]; simp [go_sem]
    have s4 : w2.cell? ⟨w1.heap.size, 4, none⟩ = some (.int .u16 (y : Nat)) := by rw [hw2]; simp [go_sem]
    have s5 : w2.cell? ⟨w1.heap.size, 5, none⟩ = some (.slice none 0 0) := by rw [hw2]; simp [go_sem]
    have s6 : w2.cell? ⟨W.heap.size, 3, none⟩ = some (.int .u16 (c : Nat)) := by rw [hw2]; exact qca _
    have hB2 : Below W.heap.size W w2 := by rw [hw2]; exact hB1.alloc (by omega) _
    have hz2 : w1.heap.size + 1 ≤ w2.heap.size := by rw [hw2]; simp
    clear hw2 qca qta qc qt hB1
    have hVt : (c : Int).tmod 4096 = (V : Int) := by rw [Int.tmod_eq_emod_of_nonneg (by omega)]; exact hVi
    have hVw : IntKind.i64.wrap (V : Int) = (V : Int) := IntWalk.i64_in _ (by omega)
    go_region_held3 (fun w' => w'.cell? ⟨w1.heap.size, 0, none⟩ = some (.int .u64 (d : Nat)) ∧ w'.cell? ⟨w1.heap.size, 1, none⟩ = some (.int .u64 (s : Nat)) ∧ w'.cell? ⟨w1.heap.size, 2, none⟩ = some (.bool true) ∧ w'.cell? ⟨w1.heap.size, 3, none⟩ = some (.int .u16 (c : Nat)) ∧ w'.cell? ⟨w1.heap.size, 4, none⟩ = some (.int .u16 (y : Nat)) ∧ w'.cell? ⟨w1.heap.size, 5, none⟩ = some (.slice none 0 0) ∧ w'.cell? ⟨W.heap.size, 3, none⟩ = some (.int .u16 (c : Nat)))
      (first | (with_reducible exact ⟨s0, s1, s2, s3, s4, s5, s6⟩) | (with_reducible exact keep7 (by assumption) (fun p hp => hb.cell (by rcases hp with hp | hp <;> rw [hp] <;> go_size))) | go_keep)
      (first
        | (go_at_call 17; (with_reducible refine Calls.mono (told02 _) ?_); rintro e w3 ⟨rfl, hb⟩; have hB3 : Below W.heap.size W w3 := Below.trans (by (repeat' (first | (with_reducible exact Below.refl _ _) | (with_reducible assumption) | (with_reducible refine Below.setCell ?_ ?_ _) | (with_reducible refine Below.alloc ?_ ?_ _) | (with_reducible refine below_drewN ?_ _) | (with_reducible refine Below.drew ?_) | go_size))) (hb.mono (by go_size)); have hz3 : w1.heap.size + 1 ≤ w3.heap.size := (by have := hb.size; (try simp at this); omega))
        | (go_at_call 24; (with_reducible refine Calls.mono (HVD.out _) ?_); rintro e w4 ⟨rfl, hb⟩; have hB4 : Below W.heap.size W w4 := Below.trans (by (repeat' (first | (with_reducible exact Below.refl _ _) | (with_reducible assumption) | (with_reducible refine Below.setCell ?_ ?_ _) | (with_reducible refine Below.alloc ?_ ?_ _) | (with_reducible refine below_drewN ?_ _) | (with_reducible refine Below.drew ?_) | go_size))) (hb.mono (by go_size)); have hz4 : w1.heap.size + 1 ≤ w4.heap.size := (by have := hb.size; (try simp at this); omega))
        | (go_at_call 25; (with_reducible refine Calls.mono (HPR.out _) ?_); rintro e w5 ⟨rfl, hb⟩; have hB5 : Below W.heap.size W w5 := Below.trans (by (repeat' (first | (with_reducible exact Below.refl _ _) | (with_reducible assumption) | (with_reducible refine Below.setCell ?_ ?_ _) | (with_reducible refine Below.alloc ?_ ?_ _) | (with_reducible refine below_drewN ?_ _) | (with_reducible refine Below.drew ?_) | go_size))) (hb.mono (by go_size)); have hz5 : w1.heap.size + 1 ≤ w5.heap.size := (by have := hb.size; (try simp at this); omega)))
    all_goals
      go_wp2
      go_ret
      exact ⟨by simp, by assumption⟩

set_option maxRecDepth 100000 in
/-- What the walk gives, for every argument: the row's own words. -/
theorem contract (H : Type) (enc : TypeId × Value → H) (W : World) (base : Nat) (args : Array Value) (ds gs : List (DataW H)) (before : List MemPlace)
    (hval : ∀ (j : Nat) t v, Try.f5.params[j]? = some t → args[j]? = some v → Value.okWide Try.prog W .any base t v)
    (hW : DataW.Whole enc Try.prog Try.f5.params.toList Rows.frameTagsSpec.vars false W args.toList ds gs before)
    (hsz0 : (DataW.weightsEach Try.prog (Try.f5.params.toList ++ Rows.frameTagsSpec.plain.varTypes Try.prog) (ds ++ gs)).all (· ≤ reachBytes) = true) :
    Calls Try.prog 5 args W fun e W' => ∃ v, e = .returned v ∧ Rows.frameTagsSpec.post enc Try.prog Try.f5 false true false false W args v W' := by
  have hW' := hW
  have hsz : (DataW.weightsEach Try.prog (Try.f5.params.toList ++ Rows.frameTagsSpec.plain.varTypes Try.prog) (ds ++ gs)).all (· ≤ reachBytes) = true := hsz0
  obtain ⟨p, q, hA0, hV, rfl, hfz, hnd⟩ := hW
  have hA : DataW.TrodAll enc Try.prog W 0 (fun _ => true) true Try.f5.params.toList args.toList ds p := hA0
  rw [Try.params5] at hA hval hsz
  obtain ⟨v0, vs0, d0, ds0, p0, q0, hargs, rfl, rfl, h0, r0⟩ := trodAll_cons hA
  obtain ⟨rfl, rfl, rfl⟩ := trodAll_nil r0
  obtain rfl : args = #[v0] := by cases args; simp_all
  obtain ⟨a0, A0, k0, c0, rfl, bd0, bs0, bc0, by_0, bl0, bk0, b0, l0⟩ := open_fr Try.underlying32 (by kernel_rfl) (by kernel_rfl) (by kernel_rfl) (by kernel_rfl) (by kernel_rfl) (by kernel_rfl) (by kernel_rfl) (by kernel_rfl) Try.underlying5 (by kernel_rfl) (by kernel_rfl) (fun n hn => by simpa using List.all_eq_true.1 hsz n (DataW.weights_mem_each (j := 0) rfl rfl n hn)) (hval 0 32 v0 rfl rfl) h0
  refine (walk W a0 A0 k0 c0 bd0 bs0 bc0 by_0 bl0 bk0 b0 l0).mono fun e W' ⟨he, hb⟩ => ?_
  subst he
  exact close_true (by kernel_rfl) Try.underlying4 (by kernel_rfl) (by kernel_rfl) rfl rfl hW' hb

set_option maxRecDepth 100000 in
theorem lifted (os : Os) (started : os.Started) (H : Type) (enc : TypeId × Value → H) :
    ReturnsInHanded {} Try.checked os 5 .any (Rows.frameTagsSpec.pre6 enc Try.prog Try.f5 Rows.frameTagsRow.domain false) (Rows.frameTagsSpec.post enc Try.prog Try.f5 false true false false) := by
  refine returnsInHanded_of_change_sized (C := Try.checked) own started (by kernel_rfl) Try.func5
    (ChangeSpec.witness6 (enc := enc) (C := Try.checked) false ⟨#[], #[.agg #[.int .u64 0, .int .u64 0, .bool false, .int .u16 0, .int .u16 0, .slice none 0 0]], []⟩ 8 (by kernel_rfl) (by kernel_rfl) (by kernel_rfl) (by kernel_rfl)) ?_
  intro W base args ds gs before hval hW _ hsz _
  exact contract H enc W base args ds gs before hval hW hsz

theorem proved : Rows.FrameTagsSaid :=
  OpenClaim.holds_of_wide 5 Try.f5 rfl rfl rfl rfl rfl rfl rfl ⟨rfl, rfl, rfl, rfl, rfl⟩ rfl rfl rfl rfl rfl (by kernel_rfl) Try.func5 (by kernel_rfl)
    (of_decide_eq_true (by kernel_rfl)) (by unfold Func.isWrapper; first | (rw [if_pos (by decide +kernel)]; kernel_rfl) | (rw [if_neg (by decide +kernel)]; exact ⟨rfl, rfl⟩))
    (fun os started H enc _ => lifted os started H enc)
#print axioms proved
end Go.Proofs.Ytiafegkjamhneaa.frameTags
