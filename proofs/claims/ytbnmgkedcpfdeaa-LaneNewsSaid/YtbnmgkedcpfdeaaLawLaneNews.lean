/-
  Of all lists of rings it is told whether there may be a lane, and of one that isn't there nothing is told. No condition.
-/
import Derived.Test.YtbnmgkedcpfdeaaRows
import Derived.Test.YtbnmgkedcpfdeaaLnK
import Derived.WalkKit
import Derived.ProofKit
import Derived.OpenShut
namespace Go.Proofs.Ytbnmgkedcpfdeaa.laneNews
open Go.ChangeShapes Go.WideShapes Go.ChangeAt Go.RowKit
open Go.ChangeMaps (open_string)
set_option linter.unusedVariables false

theorem own : ownKnob Try.prog.godebug = none := by kernel_rfl

set_option maxRecDepth 100000 in
set_option maxHeartbeats 3200000 in
theorem walk (W : World) (a0 : Int) (b0 : -9223372036854775808 ≤ a0 ∧ a0 ≤ 9223372036854775807) (a1 : Int) (b1 : -9223372036854775808 ≤ a1 ∧ a1 ≤ 9223372036854775807) :
    Calls Try.prog 10 #[.int .i64 a0, .int .i64 a1] W (Says (.bool true) W) := by
  obtain ⟨n, hn, hmod⟩ := mod_u64 a0 68 (by omega) (by omega)
  have hmod : wrap64 ((IntKind.u64.wrap a0).tmod 68) = (n : Int) := hmod
  have HT := Lib.hid (told15 W)
  go_enter Try.func10, Try.ntmps10
  go_wp2_with fail
  refine (HT.out).mono ?_
  rintro e w0 ⟨rfl, hb0⟩
  have HN := Lib.hid (mem_New 280 0 (by omega) (by omega) w0)
  have HB0 := Lib.hid hb0
  clear hb0 HT
  go_wp2_with fail
  refine (HN.out).mono ?_
  rintro e w1 ⟨b, rfl, hm, hb⟩
  have HO0 : Hid (Holed W w1 w0.heap.size b 0 a1 (.slice none 0 0) (fun _ => none) (newS 280 0)) := ⟨World.ownsRow_nil _ _ _ _, hm, rfl, rfl, fun i hi => absurd hi (by omega), by have := hm.lo_lt; omega, HB0.out.trans (hb.mono HB0.out.size), HB0.out.size⟩
  obtain ⟨lo, hlo⟩ : ∃ lo, lo = w0.heap.size := ⟨_, rfl⟩
  rw [← hlo] at HO0
  clear hm hb HN HB0 hlo
  go_wp2
  clear hmod
  go_loopw [8, 9] (fun l i wr => ∃ (k : Nat) (A : Option Addr) (c : Nat), k ≤ n ∧ l = .slice A k c ∧ i = .int .i64 k ∧ ∃ f m, Hid (Holed W wr lo b k a1 (.slice A k c) f m)) (fun _ i _ => n - (intOf i).toNat)
  case atStart => exact ⟨0, none, 0, by omega, rfl, rfl, _, _, HO0⟩
  case round =>
    obtain ⟨k, A, c, hk, rfl, rfl, f, m, HO⟩ := hrel
    clear HO0
    by_cases hlt : k < n
    · have hC := HO.out.C
      have htm := HO.out.tm
      have hlow := HO.out.low
      obtain ⟨A', c', hv', hkc, hcm⟩ := (Sl.of_own HO.out.own).form
      cases hv'
      unfold maxLen at hcm
      have HRN := Lib.hid (ring_New HO.out.mem (by omega) (4 * k) 2 (by omega) (by omega) (by omega) 0)
      rw [show ((4 * k : Nat) : Int) = 4 * (k : Int) by omega, show ((2 : Nat) : Int) = 2 from rfl] at HRN
      clear hC htm
      go_wp2_with fail
      refine (HRN.out).mono ?_
      rintro e w2 ⟨rb, rfl, hr, hle, htt⟩
      have HNX : Hid (∀ (x : Option Addr) (v' : Value) (w3 : World) (o : Obj), (((k : Int) = a1 ∧ x = none) ∨ ((k : Int) ≠ a1 ∧ x = some ⟨rb, 0, none⟩)) → w3.ownsRow (lo + 3) 28 1 v' (k + 1) (ptv f k ++ [.pointer x]) → (w2.alloc o).grownBy w3 (Value.slice A k c).ownBlock → (v'.ownBlock = (Value.slice A k c).ownBlock ∨ v'.ownBlock = some (w2.alloc o).heap.size) → ∃ f' m', Holed W w3 lo b (k + 1) a1 v' f' m') := fun x v' w3 o x1 x2 x3 x4 => ⟨_, _, HO.out.next hr hle htt x1 x2 x3 x4⟩
      have HOW : Hid (w2.ownsRow (lo + 3) 28 1 (.slice A k c) k (ptv f k)) := own_touch HO.out.own htt (Nat.le_refl _)
      have hw2 : lo + 3 ≤ w2.heap.size := by have := htt.size; omega
      clear hr hle htt HRN HO
      by_cases hh : (k : Int) = a1
      · have d1 : ((k : Int) == a1) = true := by simpa using hh
        clear hh
        go_wp2_with (first
          | (at_builtin; refine wpList_apv _ rfl stRings _ _ rfl (lo + 3) (.slice A k c) k (ptv f k) rfl (HOW.out.alloc _) (w2.heap.size + 1) _ 1 [.pointer none] rfl (Sl.lit_at (by rfl) rfl (by decide)) (by simp [Value.oneCell']) (by omega) (by go_size) ?_; intro A2 c2 w3 hown2 hgr2 hat2 hbel2; clear hbel2))
        obtain ⟨f', m', hnx⟩ := HNX.out none _ _ _ (.inl ⟨by simpa using d1, rfl⟩) hown2 hgr2 hat2
        have HG2 := Lib.hid hnx
        clear hnx hown2 hgr2 hat2 HNX HOW
        go_wp2
        go_roundw
        case rel => exact ⟨k + 1, A2, c2, by omega, rfl, by go_num, f', m', HG2⟩
        case measure => simp [intOf]; omega
      · have d1 : ((k : Int) == a1) = false := by simpa using hh
        clear hh
        go_wp2_with (first
          | (at_builtin; refine wpList_apv _ rfl stRings _ _ rfl (lo + 3) (.slice A k c) k (ptv f k) rfl (HOW.out.alloc _) (w2.heap.size + 1) _ 1 [.pointer (some ⟨rb, 0, none⟩)] rfl (Sl.lit_at (by rfl) rfl (by decide)) (by simp [Value.oneCell']) (by omega) (by go_size) ?_; intro A2 c2 w3 hown2 hgr2 hat2 hbel2; clear hbel2))
        obtain ⟨f', m', hnx⟩ := HNX.out (some ⟨rb, 0, none⟩) _ _ _ (.inr ⟨by simpa using d1, rfl⟩) hown2 hgr2 hat2
        have HG2 := Lib.hid hnx
        clear hnx hown2 hgr2 hat2 HNX HOW
        go_wp2
        go_roundw
        case rel => exact ⟨k + 1, A2, c2, by omega, rfl, by go_num, f', m', HG2⟩
        case measure => simp [intOf]; omega
    · have hkn : k = n := by omega
      subst hkn
      by_cases c1 : k < 1
      · have d1 : decide ((k : Int) ≥ 1) = false := by simp; omega
        have d1' : decide (1 ≤ (k : Int)) = false := by simp; omega
        have HBD : Hid (∀ w, Asks w k f (fun i => decide ((i : Int) = a1)) → (k < 1 ∨ 64 < k ∨ ∃ m d, m < k ∧ Asks w k f d ∧ (∀ i, i < m → d i = false) ∧ d m = true)) := fun w _ => .inl c1
        have HLN := Lib.hid (lane_NewBad (Sl.of_own HO.out.own) (by omega) (HBD.out _ HO.out.asks))
        have HBZ := Lib.hid (fun z => below_drewN HO.out.bel z)
        clear HO HBD
        go_wp2_with fail
        refine (HLN.out).mono ?_
        rintro e w3 ⟨rfl, z, rfl⟩
        have HBE := Lib.hid (HBZ.out z)
        clear HBZ HLN
        go_wp2_with fail
        refine (lane_Next0 _).mono ?_
        rintro e wq ⟨rfl, rfl⟩
        go_wp2_with fail
        refine (lane_Len0 _).mono ?_
        rintro e wq ⟨rfl, rfl⟩
        go_wp2_with fail
        refine (lact_Step0 _).mono ?_
        rintro e wq ⟨rfl, rfl⟩
        go_wp2_with fail
        refine (lact_Over0 _).mono ?_
        rintro e wq ⟨rfl, rfl⟩
        go_wp2_with fail
        refine (lact_Mark0 _).mono ?_
        rintro e wq ⟨rfl, rfl⟩
        go_wp2_with fail
        refine (lact_Ok0 _).mono ?_
        rintro e wq ⟨rfl, rfl⟩
        go_wp2_with fail
        refine (lact_Value0 _).mono ?_
        rintro e wq ⟨rfl, rfl⟩
        go_wp2_with fail
        refine (lact_From0 _).mono ?_
        rintro e wq ⟨rfl, rfl⟩
        go_wp2
        go_ret
        exact ⟨by first | rfl | (simp; done), HBE.out⟩
      · have d1 : decide ((k : Int) ≥ 1) = true := by simp; omega
        have d1' : decide (1 ≤ (k : Int)) = true := by simp; omega
        by_cases c2 : 64 < k
        · have d2 : decide ((k : Int) ≤ 64) = false := by simp; omega
          have HBD : Hid (∀ w, Asks w k f (fun i => decide ((i : Int) = a1)) → (k < 1 ∨ 64 < k ∨ ∃ m d, m < k ∧ Asks w k f d ∧ (∀ i, i < m → d i = false) ∧ d m = true)) := fun w _ => .inr (.inl c2)
          have HLN := Lib.hid (lane_NewBad (Sl.of_own HO.out.own) (by omega) (HBD.out _ HO.out.asks))
          have HBZ := Lib.hid (fun z => below_drewN HO.out.bel z)
          clear HO HBD
          go_wp2_with fail
          refine (HLN.out).mono ?_
          rintro e w3 ⟨rfl, z, rfl⟩
          have HBE := Lib.hid (HBZ.out z)
          clear HBZ HLN
          go_wp2_with fail
          refine (lane_Next0 _).mono ?_
          rintro e wq ⟨rfl, rfl⟩
          go_wp2_with fail
          refine (lane_Len0 _).mono ?_
          rintro e wq ⟨rfl, rfl⟩
          go_wp2_with fail
          refine (lact_Step0 _).mono ?_
          rintro e wq ⟨rfl, rfl⟩
          go_wp2_with fail
          refine (lact_Over0 _).mono ?_
          rintro e wq ⟨rfl, rfl⟩
          go_wp2_with fail
          refine (lact_Mark0 _).mono ?_
          rintro e wq ⟨rfl, rfl⟩
          go_wp2_with fail
          refine (lact_Ok0 _).mono ?_
          rintro e wq ⟨rfl, rfl⟩
          go_wp2_with fail
          refine (lact_Value0 _).mono ?_
          rintro e wq ⟨rfl, rfl⟩
          go_wp2_with fail
          refine (lact_From0 _).mono ?_
          rintro e wq ⟨rfl, rfl⟩
          go_wp2
          go_ret
          exact ⟨by first | rfl | (simp; done), HBE.out⟩
        · have d2 : decide ((k : Int) ≤ 64) = true := by simp; omega
          by_cases c3 : a1 < 0
          · have d3 : decide (a1 < 0) = true := by simpa using c3
            obtain ⟨rbs, hp, hlt2, hask⟩ := HO.out.whole (by omega)
            have hsl := Sl.of_own HO.out.own
            rw [hp] at hsl
            have HLN := Lib.hid (lane_New hsl (Nat.le_refl _) (by omega) (by omega) hlt2 hask)
            have HB0 := Lib.hid HO.out.bel
            clear HO hp hlt2 hask hsl
            go_wp2_with fail
            refine (HLN.out).mono ?_
            rintro e w3 ⟨lb, g, cap, rfl, _, _, hb3⟩
            have HBE : Hid (Below W.heap.size W w3) := HB0.out.trans (hb3.mono HB0.out.size)
            clear hb3 HB0 HLN
            go_wp2_with fail
            refine (lane_Next0 _).mono ?_
            rintro e wq ⟨rfl, rfl⟩
            go_wp2_with fail
            refine (lane_Len0 _).mono ?_
            rintro e wq ⟨rfl, rfl⟩
            go_wp2_with fail
            refine (lact_Step0 _).mono ?_
            rintro e wq ⟨rfl, rfl⟩
            go_wp2_with fail
            refine (lact_Over0 _).mono ?_
            rintro e wq ⟨rfl, rfl⟩
            go_wp2_with fail
            refine (lact_Mark0 _).mono ?_
            rintro e wq ⟨rfl, rfl⟩
            go_wp2_with fail
            refine (lact_Ok0 _).mono ?_
            rintro e wq ⟨rfl, rfl⟩
            go_wp2_with fail
            refine (lact_Value0 _).mono ?_
            rintro e wq ⟨rfl, rfl⟩
            go_wp2_with fail
            refine (lact_From0 _).mono ?_
            rintro e wq ⟨rfl, rfl⟩
            go_wp2
            go_ret
            exact ⟨by first | rfl | (simp; done), HBE.out⟩
          · have d3 : decide (a1 < 0) = false := by simpa using c3
            by_cases c4 : (k : Int) ≤ a1
            · have d4 : decide (a1 ≥ (k : Int)) = true := by simpa using c4
              have d4' : decide ((k : Int) ≤ a1) = true := by simpa using c4
              obtain ⟨rbs, hp, hlt2, hask⟩ := HO.out.whole (by omega)
              have hsl := Sl.of_own HO.out.own
              rw [hp] at hsl
              have HLN := Lib.hid (lane_New hsl (Nat.le_refl _) (by omega) (by omega) hlt2 hask)
              have HB0 := Lib.hid HO.out.bel
              clear HO hp hlt2 hask hsl
              go_wp2_with fail
              refine (HLN.out).mono ?_
              rintro e w3 ⟨lb, g, cap, rfl, _, _, hb3⟩
              have HBE : Hid (Below W.heap.size W w3) := HB0.out.trans (hb3.mono HB0.out.size)
              clear hb3 HB0 HLN
              go_wp2_with fail
              refine (lane_Next0 _).mono ?_
              rintro e wq ⟨rfl, rfl⟩
              go_wp2_with fail
              refine (lane_Len0 _).mono ?_
              rintro e wq ⟨rfl, rfl⟩
              go_wp2_with fail
              refine (lact_Step0 _).mono ?_
              rintro e wq ⟨rfl, rfl⟩
              go_wp2_with fail
              refine (lact_Over0 _).mono ?_
              rintro e wq ⟨rfl, rfl⟩
              go_wp2_with fail
              refine (lact_Mark0 _).mono ?_
              rintro e wq ⟨rfl, rfl⟩
              go_wp2_with fail
              refine (lact_Ok0 _).mono ?_
              rintro e wq ⟨rfl, rfl⟩
              go_wp2_with fail
              refine (lact_Value0 _).mono ?_
              rintro e wq ⟨rfl, rfl⟩
              go_wp2_with fail
              refine (lact_From0 _).mono ?_
              rintro e wq ⟨rfl, rfl⟩
              go_wp2
              go_ret
              exact ⟨by first | rfl | (simp; done), HBE.out⟩
            · have d4 : decide (a1 ≥ (k : Int)) = false := by simpa using c4
              have d4' : decide ((k : Int) ≤ a1) = false := by simpa using c4
              have HBD : Hid (∀ w, Asks w k f (fun i => decide ((i : Int) = a1)) → (k < 1 ∨ 64 < k ∨ ∃ m d, m < k ∧ Asks w k f d ∧ (∀ i, i < m → d i = false) ∧ d m = true)) := fun w h => .inr (.inr ⟨a1.toNat, _, by omega, h, fun i hi => decide_eq_false (by omega), decide_eq_true (by omega)⟩)
              have HLN := Lib.hid (lane_NewBad (Sl.of_own HO.out.own) (by omega) (HBD.out _ HO.out.asks))
              have HBZ := Lib.hid (fun z => below_drewN HO.out.bel z)
              clear HO HBD
              go_wp2_with fail
              refine (HLN.out).mono ?_
              rintro e w3 ⟨rfl, z, rfl⟩
              have HBE := Lib.hid (HBZ.out z)
              clear HBZ HLN
              go_wp2_with fail
              refine (lane_Next0 _).mono ?_
              rintro e wq ⟨rfl, rfl⟩
              go_wp2_with fail
              refine (lane_Len0 _).mono ?_
              rintro e wq ⟨rfl, rfl⟩
              go_wp2_with fail
              refine (lact_Step0 _).mono ?_
              rintro e wq ⟨rfl, rfl⟩
              go_wp2_with fail
              refine (lact_Over0 _).mono ?_
              rintro e wq ⟨rfl, rfl⟩
              go_wp2_with fail
              refine (lact_Mark0 _).mono ?_
              rintro e wq ⟨rfl, rfl⟩
              go_wp2_with fail
              refine (lact_Ok0 _).mono ?_
              rintro e wq ⟨rfl, rfl⟩
              go_wp2_with fail
              refine (lact_Value0 _).mono ?_
              rintro e wq ⟨rfl, rfl⟩
              go_wp2_with fail
              refine (lact_From0 _).mono ?_
              rintro e wq ⟨rfl, rfl⟩
              go_wp2
              go_ret
              exact ⟨by first | rfl | (simp; done), HBE.out⟩

set_option maxRecDepth 100000 in
/-- What the walk gives, for every argument: the row's own words. -/
theorem contract (H : Type) (enc : TypeId × Value → H) (W : World) (base : Nat) (args : Array Value) (ds gs : List (DataW H)) (before : List MemPlace)
    (hval : ∀ (j : Nat) t v, Try.f10.params[j]? = some t → args[j]? = some v → Value.okWide Try.prog W .any base t v)
    (hW : DataW.Whole enc Try.prog Try.f10.params.toList Rows.laneNewsSpec.vars false W args.toList ds gs before) :
    Calls Try.prog 10 args W fun e W' => ∃ v, e = .returned v ∧ Rows.laneNewsSpec.post enc Try.prog Try.f10 false true false false W args v W' := by
  have hW' := hW
  obtain ⟨p, q, hA0, hV, rfl, hfz, hnd⟩ := hW
  have hA : DataW.TrodAll enc Try.prog W 0 (fun _ => true) true Try.f10.params.toList args.toList ds p := hA0
  rw [Try.params10] at hA hval
  obtain ⟨v0, vs0, d0, ds0, p0, q0, hargs, rfl, rfl, h0, r0⟩ := trodAll_cons hA
  obtain ⟨v1, vs1, d1, ds1, p1, q1, rfl, rfl, rfl, h1, r1⟩ := trodAll_cons r0
  obtain ⟨rfl, rfl, rfl⟩ := trodAll_nil r1
  obtain rfl : args = #[v0, v1] := by cases args; simp_all
  obtain ⟨a0, rfl, b0⟩ := open_i64 Try.underlying3 (hval 0 3 v0 rfl rfl) h0
  obtain ⟨a1, rfl, b1⟩ := open_i64 Try.underlying3 (hval 1 3 v1 rfl rfl) h1
  refine (walk W a0 b0 a1 b1).mono fun e W' ⟨he, hb⟩ => ?_
  subst he
  exact close_true (by kernel_rfl) Try.underlying4 (by kernel_rfl) (by kernel_rfl) rfl rfl hW' hb

set_option maxRecDepth 100000 in
theorem lifted (os : Os) (started : os.Started) (H : Type) (enc : TypeId × Value → H) :
    ReturnsInHanded {} Try.checked os 10 .any (Rows.laneNewsSpec.pre6 enc Try.prog Try.f10 Rows.laneNewsRow.domain false) (Rows.laneNewsSpec.post enc Try.prog Try.f10 false true false false) := by
  refine returnsInHanded_of_change (C := Try.checked) own started (by kernel_rfl) Try.func10
    (ChangeSpec.witness6 (enc := enc) (C := Try.checked) false ⟨#[], #[.int .i64 0, .int .i64 0], []⟩ 8 (by kernel_rfl) (by kernel_rfl) (by kernel_rfl) (by kernel_rfl)) ?_
  intro W base args ds gs before hval hW _ _
  exact contract H enc W base args ds gs before hval hW

theorem proved : Rows.LaneNewsSaid :=
  OpenClaim.holds_of_wide 10 Try.f10 rfl rfl rfl rfl rfl rfl rfl ⟨rfl, rfl, rfl, rfl, rfl⟩ rfl rfl rfl rfl rfl (by kernel_rfl) Try.func10 (by kernel_rfl)
    (of_decide_eq_true (by kernel_rfl)) (by unfold Func.isWrapper; first | (rw [if_pos (by decide +kernel)]; kernel_rfl) | (rw [if_neg (by decide +kernel)]; exact ⟨rfl, rfl⟩))
    (fun os started H enc _ => lifted os started H enc)
#print axioms proved
end Go.Proofs.Ytbnmgkedcpfdeaa.laneNews
