/-
  Whatever is done, one behind the other, is answered as the document says, and so many steps were made, and so all cells and locks are left. No condition.
-/
import Derived.Test.YthamjkccljhhcabRows
import Derived.Test.YthamjkccljhhcabMemO
import Derived.Deep.RegionHeld3
import Derived.Deep.RegionWith
import Derived.WalkKit
import Derived.ProofKit
import Derived.OpenShut
namespace Go.Proofs.Ythamjkccljhhcab.memActs
open Go.ChangeShapes Go.WideShapes Go.ChangeAt Go.RowKit
open Go.ChangeMaps (open_string)
set_option linter.unusedVariables false

theorem own : ownKnob Try.prog.godebug = none := by kernel_rfl
theorem keep4 {w w' : World} {b o1 o2 o3 o4 : Nat} {v1 v2 v3 v4 : Value} (h : w.cell? ⟨b, o1, none⟩ = some v1 ∧ w.cell? ⟨b, o2, none⟩ = some v2 ∧ w.cell? ⟨b, o3, none⟩ = some v3 ∧ w.cell? ⟨b, o4, none⟩ = some v4) (hk : ∀ p : Addr, p.block = b → w'.cell? p = w.cell? p) :
    w'.cell? ⟨b, o1, none⟩ = some v1 ∧ w'.cell? ⟨b, o2, none⟩ = some v2 ∧ w'.cell? ⟨b, o3, none⟩ = some v3 ∧ w'.cell? ⟨b, o4, none⟩ = some v4 := ⟨(hk _ rfl).trans h.1, (hk _ rfl).trans h.2.1, (hk _ rfl).trans h.2.2.1, (hk _ rfl).trans h.2.2.2⟩
theorem one_wrap8 (n : Nat) (h : n < 8) : wrap64 (1 + (n : Int)) = ((1 + n : Nat) : Int) := by
  rw [IntWalk.wrap64_in _ (by omega)]
  omega
/-- A lower block is as it was, whatever was done at a memory that lies higher. -/
theorem memat_time {w : World} {T : TypeId} {lo b : Nat} {s : MemS} (h : MemAt w T lo b s) : w.cell? ⟨b, 2, none⟩ = some (.int .i64 s.t) := by
  obtain ⟨bc, bl, h⟩ := h
  exact h.at_.2.2.1
def tmAt (w : World) (b : Nat) : Int := match w.cell? ⟨b, 2, none⟩ with
  | some (.int _ x) => x
  | _ => 0
theorem memat_tmv {w : World} {T : TypeId} {lo b : Nat} {s : MemS} (h : MemAt w T lo b s) : tmAt w b = s.t := by
  unfold tmAt; rw [memat_time h]
theorem memat_tm {w : World} {T : TypeId} {lo b : Nat} {s : MemS} (h : MemAt w T lo b s) : w.cell? ⟨b, 2, none⟩ = some (.int .i64 (tmAt w b)) := by
  rw [memat_tmv h]; exact memat_time h
theorem keep5 {w w' : World} {b o1 o2 o3 o4 : Nat} {v1 v2 v3 v4 : Value} {p p' : Prop} (h : w.cell? ⟨b, o1, none⟩ = some v1 ∧ w.cell? ⟨b, o2, none⟩ = some v2 ∧ w.cell? ⟨b, o3, none⟩ = some v3 ∧ w.cell? ⟨b, o4, none⟩ = some v4 ∧ p) (hk : ∀ p : Addr, p.block = b → w'.cell? p = w.cell? p) (hp : p') :
    w'.cell? ⟨b, o1, none⟩ = some v1 ∧ w'.cell? ⟨b, o2, none⟩ = some v2 ∧ w'.cell? ⟨b, o3, none⟩ = some v3 ∧ w'.cell? ⟨b, o4, none⟩ = some v4 ∧ p' := ⟨(hk _ rfl).trans h.1, (hk _ rfl).trans h.2.1, (hk _ rfl).trans h.2.2.1, (hk _ rfl).trans h.2.2.2.1, hp⟩
theorem touch_low {lo : Nat} {w w' : World} (h : Touch lo w w') {b : Nat} (hb : b < lo) (hw : lo ≤ w.heap.size) : ∀ p : Addr, p.block = b → w'.cell? p = w.cell? p := fun p hp => World.cell?_of_block (w := w) (h.block p.block (by omega) (Or.inl (by omega)))

set_option maxRecDepth 100000 in
set_option maxHeartbeats 16000000 in
theorem walk (W : World) (a0 : Int) (b0 : -9223372036854775808 ≤ a0 ∧ a0 ≤ 9223372036854775807) (a1 : Int) (b1 : -9223372036854775808 ≤ a1 ∧ a1 ≤ 9223372036854775807) (a2 : Value) (b2 : Ops6 W a2) :
    Calls Try.prog 3 #[.int .i64 a0, .int .i64 a1, a2] W (Says (.bool true) W) := by
  obtain ⟨A, n, cap, rfl, hn, hcap, HOPS⟩ := b2
  unfold maxLen at hcap
  obtain ⟨N, hN⟩ : ∃ N, N = min n 400 := ⟨_, rfl⟩
  have hN0 : N ≤ n := by omega
  have hN1 : N ≤ 400 := by omega
  have HN := Lib.hid hN
  have HO := Lib.hid HOPS
  clear HOPS hN
  obtain ⟨c0, hc8, hcw⟩ := mod_u64 a0 8 (by omega) (by omega)
  have hcw' : wrap64 ((IntKind.u64.wrap a0).tmod 8) = (c0 : Int) := hcw
  obtain ⟨l, hl5, hlw⟩ := mod_u64 a1 5 (by omega) (by omega)
  have hlw' : wrap64 ((IntKind.u64.wrap a1).tmod 5) = (l : Int) := hlw
  obtain ⟨c, hc⟩ : ∃ c, c = 1 + c0 := ⟨_, rfl⟩
  have hc1 : 1 ≤ c := by clear hcw hcw' hlw hlw'; omega
  have hc2 : c ≤ 8 := by clear hcw hcw' hlw hlw'; omega
  have hnw : wrap64 (1 + (c0 : Int)) = (c : Int) := by rw [hc]; exact one_wrap8 c0 hc8
  have hnw2 : 1 + (c0 : Int) = (c : Int) := by rw [hc]; simp
  clear hcw hlw hc hc8 b0 b1
  go_enter Try.func3, Try.ntmps3
  go_wp2_with fail
  refine (mem_New c l ⟨hc1, by omega⟩ (by omega) _).mono ?_
  rintro e w1 ⟨b, rfl, hm, hb⟩
  simp only [hcw', hlw']
  clear hcw' hlw' hnw hnw2
  have M1 := Lib.hid hm
  have B1 := Lib.hid hb
  clear hm hb
  go_wp2_with fail
  refine (ref6_New c l ⟨hc1, by omega⟩ (by omega) _).mono ?_
  rintro e w2 ⟨b2, rfl, hm, hb⟩
  have N2 := Lib.hid hm
  have M2 := Lib.hid (M1.out.below hb)
  have B2 := Lib.hid (B1.out.trans (hb.mono B1.out.size))
  have hlo := M1.out.lo_lt
  have hlo2 := N2.out.lo_lt
  obtain ⟨lo2, hL2⟩ : ∃ lo2, lo2 = w1.heap.size := ⟨_, rfl⟩
  rw [← hL2] at N2 hlo hlo2
  clear hm hb hL2
  go_wp2_with fail
  refine (told06 _).mono ?_
  rintro e w3 ⟨rfl, hb⟩
  have B3 := Lib.hid (B2.out.trans (hb.mono B2.out.size))
  have M3 := Lib.hid (M2.out.below hb)
  have N3 := Lib.hid (N2.out.below hb)
  clear hb
  clear B1 B2 M1 M2 N2
  go_wp2_with fail
  refine (mem_Cells M3.out).mono ?_
  rintro e w3' ⟨rfl, rfl⟩
  rw [show (newS c l).C = c from rfl]
  go_wp2_with fail
  refine (mem_Locks M3.out).mono ?_
  rintro e w3' ⟨rfl, rfl⟩
  rw [show (newS c l).L = l from rfl]
  have hne1 : ((c : Int) != (c : Int)) = false := by simp
  have hne2 : ((l : Int) != (l : Int)) = false := by simp
  go_wp2
  clear hne1 hne2
  go_loopw [12] (fun i wr => ∃ k : Nat, k ≤ N ∧ i = .int .i64 k ∧ ∃ s : MemS, Hid (MemAt wr 62 W.heap.size b s ∧ MemAt wr 39 lo2 b2 s ∧ (s.C = c ∧ s.L = l) ∧ s.t ≤ (k : Int)) ∧ Hid (Below W.heap.size W wr)) (fun i _ => N - (intOf i).toNat)
  case atStart => exact ⟨0, by omega, rfl, newS c l, ⟨M3.out, N3.out, ⟨rfl, rfl⟩, Int.le_refl _⟩, B3.out⟩
  case round =>
    obtain ⟨k, hk, rfl, s, HM, HBW⟩ := hrel
    have hk0 : (0 : Int) ≤ (k : Int) := Int.natCast_nonneg _
    clear M3 N3 B3
    by_cases hlt : k < N
    · have hd1 : decide (k < n) = true := by simp; omega
      have hd3 : (k : Int) < 400 := by omega
      have hd4 : (k : Int) < (n : Int) := by omega
      obtain ⟨b1, off, rfl, h3, hcell⟩ := HO.out (by omega)
      obtain ⟨kd, a, who, u, c0, c1, c2, c3⟩ := hcell k (by omega)
      have c0 := (HBW.out.cell (p := ⟨b1, off + k * 4, none⟩) h3).trans c0
      have c1 := (HBW.out.cell (p := ⟨b1, off + k * 4 + 1, none⟩) h3).trans c1
      have c2 := (HBW.out.cell (p := ⟨b1, off + k * 4 + 2, none⟩) h3).trans c2
      have c3 := (HBW.out.cell (p := ⟨b1, off + k * 4 + 3, none⟩) h3).trans c3
      obtain ⟨kk, hk6, hkw⟩ := mod6 kd
      have HKW := Lib.hid hkw
      have hz := HBW.out.size
      obtain ⟨hm1, hm2, hm3, hm4⟩ := HM.out
      have HA := Lib.hid fun w' (h : MemAt w' 62 W.heap.size b s) => law6_do kd a who u kk hk6 hkw h (by omega)
      have HB := Lib.hid fun w' (h : MemAt w' 39 lo2 b2 s) => law6_want kd a who u kk hk6 hkw h (by omega)
      have HCL := Lib.hid (opS_CL kk a who u s)
      have HTT := Lib.hid (opS_t kk a who u s)
      have M0 := Lib.hid hm1
      have N0 := Lib.hid hm2
      have HS3 := Lib.hid hm3
      have HS4 := Lib.hid hm4
      have hne : (opV kk a who s != opV kk a who s) = false := by simp
      clear hcell hkw HO hm1 hm2 hm3 hm4 HM HKW
      generalize opV kk a who s = V at *
      generalize opS kk a who u s = s' at *
      have hnt : (s'.t != s'.t) = false := by simp
      have hbw := HBW.out
      clear hd1 hd3
      go_wp2_with fail
      go_region_with (first
          | (go_at_call 17; (with_reducible refine Calls.mono (HA.out _ (M0.out.below (by (repeat' (first | (with_reducible exact Below.refl _ _) | (with_reducible assumption) | (with_reducible refine Below.setCell ?_ ?_ _) | (with_reducible refine Below.alloc ?_ ?_ _) | (with_reducible refine below_drewN ?_ _) | (with_reducible refine Below.drew ?_) | go_size))))) ?_); rintro e w3 ⟨rfl, ma, ta⟩; have hkeep := touch_low ta h3 (by go_size); have hb3 : Below W.heap.size W w3 := ta.below (by (repeat' (first | (with_reducible exact Below.refl _ _) | (with_reducible assumption) | (with_reducible refine Below.setCell ?_ ?_ _) | (with_reducible refine Below.alloc ?_ ?_ _) | (with_reducible refine below_drewN ?_ _) | (with_reducible refine Below.drew ?_) | go_size))) (Nat.le_refl _) (by go_size); have hz3 := hb3.size; have mb0 := (N0.out.below (by (repeat' (first | (with_reducible exact Below.refl _ _) | (with_reducible assumption) | (with_reducible refine Below.setCell ?_ ?_ _) | (with_reducible refine Below.alloc ?_ ?_ _) | (with_reducible refine below_drewN ?_ _) | (with_reducible refine Below.drew ?_) | go_size)))).touch ta (by omega); have hz5 := mb0.lo_lt; have d0 := (hkeep ⟨b1, off + k * 4, none⟩ rfl).trans c0; have d1 := (hkeep ⟨b1, off + k * 4 + 1, none⟩ rfl).trans c1; have d2 := (hkeep ⟨b1, off + k * 4 + 2, none⟩ rfl).trans c2; have d3 := (hkeep ⟨b1, off + k * 4 + 3, none⟩ rfl).trans c3; clear hkeep)
          | (go_at_call 18; (with_reducible refine Calls.mono (HB.out _ (mb0.below (by (repeat' (first | (with_reducible exact Below.refl _ _) | (with_reducible assumption) | (with_reducible refine Below.setCell ?_ ?_ _) | (with_reducible refine Below.alloc ?_ ?_ _) | (with_reducible refine below_drewN ?_ _) | (with_reducible refine Below.drew ?_) | go_size))))) ?_); rintro e w4 ⟨rfl, mb, tb⟩; have hb4 : Below W.heap.size W w4 := tb.below (by (repeat' (first | (with_reducible exact Below.refl _ _) | (with_reducible assumption) | (with_reducible refine Below.setCell ?_ ?_ _) | (with_reducible refine Below.alloc ?_ ?_ _) | (with_reducible refine below_drewN ?_ _) | (with_reducible refine Below.drew ?_) | go_size))) (by omega) (by go_size); have ma2 := (ma.below (by (repeat' (first | (with_reducible exact Below.refl _ _) | (with_reducible assumption) | (with_reducible refine Below.setCell ?_ ?_ _) | (with_reducible refine Below.alloc ?_ ?_ _) | (with_reducible refine below_drewN ?_ _) | (with_reducible refine Below.drew ?_) | go_size)))).touch tb (by omega); have htime := memat_time mb)
          | (go_at_call 19; (with_reducible refine Calls.mono (mem_Time (ma2.below (by (repeat' (first | (with_reducible exact Below.refl _ _) | (with_reducible assumption) | (with_reducible refine Below.setCell ?_ ?_ _) | (with_reducible refine Below.alloc ?_ ?_ _) | (with_reducible refine below_drewN ?_ _) | (with_reducible refine Below.drew ?_) | go_size))))) ?_); rintro e w5 ⟨rfl, rfl⟩))
      all_goals
        have HB4 := Lib.hid hb4
        have MA := Lib.hid ma2
        have MB := Lib.hid mb
        clear hb4 ma2 mb ma ta tb mb0 htime hz3 hz5 hb3 d0 d1 d2 d3 c0 c1 c2 c3 hbw
        go_wp2
        go_roundw
        case rel => exact ⟨k + 1, by omega, by go_num, s', ⟨MA.out, MB.out, ⟨HCL.out.1.trans HS3.out.1, HCL.out.2.trans HS3.out.2⟩, by have := HS4.out; have := HTT.out; omega⟩, HB4.out⟩
        case measure => simp [intOf]; omega
    · have : k = N := by omega
      subst this
      have hm1 := Lib.hid HM.out.1
      have hm2 := Lib.hid HM.out.2.1
      have hCL := Lib.hid HM.out.2.2.1
      clear HM
      rcases Nat.lt_or_ge k n with h1 | h1
      · have hd1 : decide (k < n) = true := by simpa using h1
        have hd2 : decide ((k : Int) < 400) = false := by have := HN.out; simp; omega
        clear h1
        go_wp2
        go_loop [13] (fun i => ∃ j : Nat, j ≤ c ∧ i = .int .i64 j) (fun i => c - (intOf i).toNat)
        case atStart => exact ⟨0, by omega, rfl⟩
        case round =>
          obtain ⟨j, hj, rfl⟩ := hrel
          have hj0 : (0 : Int) ≤ (j : Int) := Int.natCast_nonneg _
          by_cases hjc : j < c
          · have hj1 : (j : Int) < (c : Int) := by omega
            have P1 := Lib.hid (mem_Peek (j : Int) hm1.out)
            have P2 := Lib.hid (ref6_Peek (j : Int) hm2.out)
            have hnp : (peekS s (j : Int) != peekS s (j : Int)) = false := by simp
            go_wp2_with fail
            refine (P1.out).mono ?_
            rintro e w3 ⟨rfl, rfl⟩
            go_wp2_with fail
            refine (P2.out).mono ?_
            rintro e w3 ⟨rfl, rfl⟩
            go_wp2
            go_round
            case rel => exact ⟨j + 1, by omega, by go_num⟩
            case measure => simp [intOf]; omega
          · have : j = c := by omega
            subst this
            go_wp2
            go_loop [14] (fun i => ∃ q : Nat, q ≤ l ∧ i = .int .i64 q) (fun i => l - (intOf i).toNat)
            case atStart => exact ⟨0, by omega, rfl⟩
            case round =>
              obtain ⟨q, hq, rfl⟩ := hrel
              have hq0 : (0 : Int) ≤ (q : Int) := Int.natCast_nonneg _
              by_cases hql : q < l
              · have hq1 : (q : Int) < (l : Int) := by omega
                have P1 := Lib.hid (mem_Holder (q : Int) hm1.out)
                have P2 := Lib.hid (ref6_Holder (q : Int) hm2.out)
                have hnp : (holdS s (q : Int) != holdS s (q : Int)) = false := by simp
                go_wp2_with fail
                refine (P1.out).mono ?_
                rintro e w3 ⟨rfl, rfl⟩
                go_wp2_with fail
                refine (P2.out).mono ?_
                rintro e w3 ⟨rfl, rfl⟩
                go_wp2
                go_round
                case rel => exact ⟨q + 1, by omega, by go_num⟩
                case measure => simp [intOf]; omega
              · have : q = l := by omega
                subst this
                go_wp2
                go_ret
                exact ⟨rfl, HBW.out⟩
      · have hd1 : decide (k < n) = false := by simpa using h1
        clear h1
        go_wp2
        go_loop [13] (fun i => ∃ j : Nat, j ≤ c ∧ i = .int .i64 j) (fun i => c - (intOf i).toNat)
        case atStart => exact ⟨0, by omega, rfl⟩
        case round =>
          obtain ⟨j, hj, rfl⟩ := hrel
          have hj0 : (0 : Int) ≤ (j : Int) := Int.natCast_nonneg _
          by_cases hjc : j < c
          · have hj1 : (j : Int) < (c : Int) := by omega
            have P1 := Lib.hid (mem_Peek (j : Int) hm1.out)
            have P2 := Lib.hid (ref6_Peek (j : Int) hm2.out)
            have hnp : (peekS s (j : Int) != peekS s (j : Int)) = false := by simp
            go_wp2_with fail
            refine (P1.out).mono ?_
            rintro e w3 ⟨rfl, rfl⟩
            go_wp2_with fail
            refine (P2.out).mono ?_
            rintro e w3 ⟨rfl, rfl⟩
            go_wp2
            go_round
            case rel => exact ⟨j + 1, by omega, by go_num⟩
            case measure => simp [intOf]; omega
          · have : j = c := by omega
            subst this
            go_wp2
            go_loop [14] (fun i => ∃ q : Nat, q ≤ l ∧ i = .int .i64 q) (fun i => l - (intOf i).toNat)
            case atStart => exact ⟨0, by omega, rfl⟩
            case round =>
              obtain ⟨q, hq, rfl⟩ := hrel
              have hq0 : (0 : Int) ≤ (q : Int) := Int.natCast_nonneg _
              by_cases hql : q < l
              · have hq1 : (q : Int) < (l : Int) := by omega
                have P1 := Lib.hid (mem_Holder (q : Int) hm1.out)
                have P2 := Lib.hid (ref6_Holder (q : Int) hm2.out)
                have hnp : (holdS s (q : Int) != holdS s (q : Int)) = false := by simp
                go_wp2_with fail
                refine (P1.out).mono ?_
                rintro e w3 ⟨rfl, rfl⟩
                go_wp2_with fail
                refine (P2.out).mono ?_
                rintro e w3 ⟨rfl, rfl⟩
                go_wp2
                go_round
                case rel => exact ⟨q + 1, by omega, by go_num⟩
                case measure => simp [intOf]; omega
              · have : q = l := by omega
                subst this
                go_wp2
                go_ret
                exact ⟨rfl, HBW.out⟩

set_option maxRecDepth 100000 in
/-- What the walk gives, for every argument: the row's own words. -/
theorem contract (H : Type) (enc : TypeId × Value → H) (W : World) (base : Nat) (args : Array Value) (ds gs : List (DataW H)) (before : List MemPlace)
    (hval : ∀ (j : Nat) t v, Try.f3.params[j]? = some t → args[j]? = some v → Value.okWide Try.prog W .any base t v)
    (hW : DataW.Whole enc Try.prog Try.f3.params.toList Rows.memActsSpec.vars false W args.toList ds gs before) :
    Calls Try.prog 3 args W fun e W' => ∃ v, e = .returned v ∧ Rows.memActsSpec.post enc Try.prog Try.f3 false true false false W args v W' := by
  have hW' := hW
  obtain ⟨p, q, hA0, hV, rfl, hfz, hnd⟩ := hW
  have hA : DataW.TrodAll enc Try.prog W 0 (fun _ => true) true Try.f3.params.toList args.toList ds p := hA0
  rw [Try.params3] at hA hval
  obtain ⟨v0, vs0, d0, ds0, p0, q0, hargs, rfl, rfl, h0, r0⟩ := trodAll_cons hA
  obtain ⟨v1, vs1, d1, ds1, p1, q1, rfl, rfl, rfl, h1, r1⟩ := trodAll_cons r0
  obtain ⟨v2, vs2, d2, ds2, p2, q2, rfl, rfl, rfl, h2, r2⟩ := trodAll_cons r1
  obtain ⟨rfl, rfl, rfl⟩ := trodAll_nil r2
  obtain rfl : args = #[v0, v1, v2] := by cases args; simp_all
  obtain ⟨a0, rfl, b0⟩ := open_i64 Try.underlying3 (hval 0 3 v0 rfl rfl) h0
  obtain ⟨a1, rfl, b1⟩ := open_i64 Try.underlying3 (hval 1 3 v1 rfl rfl) h1
  have b2 := open_ops6 Try.underlying22 Try.underlying34 (by kernel_rfl) (by kernel_rfl) (by kernel_rfl) (by kernel_rfl) (by kernel_rfl) (by kernel_rfl) (hval 2 22 v2 rfl rfl) h2
  refine (walk W a0 b0 a1 b1 v2 b2).mono fun e W' ⟨he, hb⟩ => ?_
  subst he
  exact close_true (by kernel_rfl) Try.underlying4 (by kernel_rfl) (by kernel_rfl) rfl rfl hW' hb

set_option maxRecDepth 100000 in
theorem lifted (os : Os) (started : os.Started) (H : Type) (enc : TypeId × Value → H) :
    ReturnsInHanded {} Try.checked os 3 .any (Rows.memActsSpec.pre6 enc Try.prog Try.f3 Rows.memActsRow.domain false) (Rows.memActsSpec.post enc Try.prog Try.f3 false true false false) := by
  refine returnsInHanded_of_change (C := Try.checked) own started (by kernel_rfl) Try.func3
    (ChangeSpec.witness6 (enc := enc) (C := Try.checked) false ⟨#[], #[.int .i64 0, .int .i64 0, .slice none 0 0], []⟩ 8 (by kernel_rfl) (by kernel_rfl) (by kernel_rfl) (by kernel_rfl)) ?_
  intro W base args ds gs before hval hW _ _
  exact contract H enc W base args ds gs before hval hW

theorem proved : Rows.MemActsSaid :=
  OpenClaim.holds_of_wide 3 Try.f3 rfl rfl rfl rfl rfl rfl rfl ⟨rfl, rfl, rfl, rfl, rfl⟩ rfl rfl rfl rfl rfl (by kernel_rfl) Try.func3 (by kernel_rfl)
    (of_decide_eq_true (by kernel_rfl)) (by unfold Func.isWrapper; first | (rw [if_pos (by decide +kernel)]; kernel_rfl) | (rw [if_neg (by decide +kernel)]; exact ⟨rfl, rfl⟩))
    (fun os started H enc _ => lifted os started H enc)
#print axioms proved
end Go.Proofs.Ythamjkccljhhcab.memActs
