/-
  A ring that always has a number is taken from once at least in as many takings as there are rings, whatever the others have. No condition.
-/
import Derived.Test.YtbnmgkedcpfdeaaRows
import Derived.Test.YtbnmgkedcpfdeaaPlainFa
import Derived.Test.YtbnmgkedcpfdeaaOpenJb
import Derived.WalkKit
import Derived.ProofKit
import Derived.OpenShut
namespace Go.Proofs.Ytbnmgkedcpfdeaa.laneFair
open Go.ChangeShapes Go.WideShapes Go.ChangeAt Go.RowKit
open Go.ChangeMaps (open_string)
set_option linter.unusedVariables false

theorem own : ownKnob Try.prog.godebug = none := by kernel_rfl

set_option maxRecDepth 100000 in
set_option maxHeartbeats 3200000 in
theorem walk (W : World) (a0 : Int) (b0 : -9223372036854775808 ≤ a0 ∧ a0 ≤ 9223372036854775807) (a1 : Int) (b1 : -9223372036854775808 ≤ a1 ∧ a1 ≤ 9223372036854775807) (a2 : Value) (b2 : Jobs15 W a2) :
    Calls Try.prog 9 #[.int .i64 a0, .int .i64 a1, a2] W (Says (.bool true) W) := by
  obtain ⟨A, jn, jcap, rfl, hjc, hjm, hjobs⟩ := b2
  unfold maxLen at hjm
  have HJ := Lib.hid hjobs
  clear hjobs
  obtain ⟨n0, hn0, hmod0⟩ := mod_u64 a0 8 (by omega) (by omega)
  obtain ⟨n, hn⟩ : ∃ n, n = n0 + 1 := ⟨_, rfl⟩
  have hn8 : 1 ≤ n ∧ n ≤ 8 := by omega
  have HM0 : Hid (wrap64 (1 + wrap64 ((IntKind.u64.wrap a0).tmod 8)) = (n : Int)) := by
    have e : wrap64 ((IntKind.u64.wrap a0).tmod 8) = (n0 : Int) := hmod0
    show _ = _
    rw [e, show (1 : Int) + (n0 : Int) = (n : Int) by omega]
    exact IntWalk.wrap64_in _ (by omega)
  have HMN : Hid (IntKind.u64.wrap (n : Int) = (n : Int)) := by show _ = _; rw [IntKind.wrap_u64]; omega
  clear hmod0 hn hn0
  obtain ⟨k, hk, hmodk⟩ := mod_u64 a1 n (by omega) (by omega)
  have HMK := Lib.hid hmodk
  clear hmodk
  have HBG := Lib.hid (law15_begin (n := n) (sz := 6) (by omega) (by omega) (by omega) (by omega) W)
  have m0 := HM0.out
  have mn := HMN.out
  have mk := HMK.out
  have hnz : (n : Int) ≠ 0 := by omega
  go_enter Try.func9, Try.ntmps9
  go_wp2_with fail
  refine (HBG.out).mono ?_
  rintro e w1 ⟨wb, b, lb, g, cap, v, rbs, G, m, rfl, hw, hq, hm, hC, hG, hb⟩
  have HW := Lib.hid hw
  have HQ := Lib.hid hq
  have HG := Lib.hid hG
  have HM := Lib.hid hm
  have HB := Lib.hid hb
  clear hw hq hm hC hG hb HBG
  have HT := Lib.hid (told15 w1)
  go_wp2_with fail
  refine (HT.out).mono ?_
  rintro e w2 ⟨rfl, hb⟩
  have HF : Hid (FairI W w2 wb W.heap.size b lb g cap n v rbs k 0 0 G 0 m (fun _ => 0) (fun _ => 0) (fun _ => []) k) :=
    ⟨HW.out.below hb, HQ.out, HG.out, by have := HM.out; omega, fun j => Nat.zero_le _, hk, by rw [Nat.zero_add]; exact Nat.mod_eq_of_lt hk, by omega, HB.out.trans (hb.mono HB.out.size), Nat.le_refl _⟩
  clear hb HT HW HQ HG HM HB
  go_wp2
  clear m0 mn mk hnz
  go_loopw [10, 11] (fun s i' wr => ∃ i ms : Nat, i ≤ 150 ∧ s = .int .i64 ms ∧ i' = .int .i64 i ∧ ∃ G c m p t q D, Hid (FairI W wr wb W.heap.size b lb g cap n v rbs k i ms G c m p t q D)) (fun _ i' _ => 151 - (intOf i').toNat)
  case atStart => exact ⟨0, 0, by omega, rfl, rfl, _, _, _, _, _, _, _, HF⟩
  case round =>
    obtain ⟨i, ms, hi, rfl, rfl, G1, c, m1, p1, t1, q1, D, HI⟩ := hrel
    clear HF
    by_cases hin : i < jn
    · by_cases hi150 : i < 150
      · have dlt : decide ((i : Int) < (jn : Int)) = true := by simp; omega
        have hJ := HJ.out
        obtain ⟨jb, joff, hA, hjb, hcell⟩ := hJ (by omega)
        subst hA
        obtain ⟨jz, jr, jv, j0, j1, j2⟩ := hcell i hin
        obtain ⟨r, hr, hmodr⟩ := mod_u64 jr n (by omega) (by omega)
        have HMR := Lib.hid hmodr
        clear hmodr hcell hJ
        have hms : ms ≤ 7 := by have := HI.out.ms_; omega
        have hi0 : (0 : Int) ≤ (i : Int) := Int.natCast_nonneg _
        have hu : IntKind.u64.wrap (i : Int) = (i : Int) := by rw [IntKind.wrap_u64]; omega
        have HP1 := Lib.hid (law15_put HI.out.at_ HI.out.que hk (HI.out.fl k hk).2.1 (by have := HI.out.tm; omega) (by have := HI.out.pn k; omega) (i : Int))
        go_wp2_with fail
        refine (HP1.out).mono ?_
        rintro e w3 ⟨G2, m2, p2, rfl, hd1⟩
        clear hu
        obtain ⟨fl2, hb2⟩ := FairI.puts hd1 hk HI.out.fl HI.out.bel HI.out.lo0
        have HD1 := Lib.hid hd1
        have FL2 := Lib.hid fl2
        have HB2 := Lib.hid hb2
        have HNE1 := Lib.hid (put_has (q := q1) (i := k) (x := (i : Int)) (show 1 ≤ (G1 k).sz by rw [(HI.out.fl k hk).1]; omega))
        obtain ⟨q2, hq2⟩ : ∃ q2, q2 = upd q1 k (if (q1 k).length < (G1 k).sz then q1 k ++ [(i : Int)] else q1 k) := ⟨_, rfl⟩
        have HQ2 : Hid (RgsQ n G2 m2 p2 t1 q2) := by rw [hq2]; exact hd1.que
        have HNE2 : Hid (q2 k ≠ []) := by rw [hq2]; exact HNE1.out
        clear hd1 fl2 hb2 hq2 HNE1 HP1
        have HP2 : Hid (∀ w', Below w3.heap.size w3 w' → Calls Try.prog 40 #[.pointer (some ⟨wb, 0, none⟩), .int .i64 (r : Int), .int .u64 jv] w' fun e w4 => ∃ z G' m' p', e = .returned (.bool z) ∧ PutDid w' wb W.heap.size b lb g cap n v rbs G2 c false m2 p2 t1 q2 r jv w4 G' m' p' ∧ Below W.heap.size W w') := fun w' hb =>
          (law15_put (HD1.out.at_.below hb) HQ2.out hr (FL2.out r hr).2.1 (by have := HD1.out.tm; have := HI.out.tm; omega) (by have := HD1.out.pn r; have := HI.out.pn r; omega) jv).mono fun e w4 hh => by
            obtain ⟨G', m', p', e1, e2⟩ := hh
            exact ⟨_, G', m', p', e1, e2, HB2.out.trans (hb.mono HB2.out.size)⟩
        have k1 := (HB2.out.cell (p := ⟨jb, joff + i * 3 + 1, none⟩) hjb).trans j1
        have k2 := (HB2.out.cell (p := ⟨jb, joff + i * 3 + 2, none⟩) hjb).trans j2
        have mr := HMR.out
        have mr2 : IntKind.i64.wrap ((IntKind.u64.wrap jr).tmod (n : Int)) = (r : Int) := (IntWalk.i64_left _).trans mr
        have mn := HMN.out
        have hnz : (n : Int) ≠ 0 := by omega
        go_wp2_with fail
        go_region_with (first
          | (go_at_call 40; (with_reducible refine Calls.mono (HP2.out _ (by (repeat' (first | (with_reducible exact Below.refl _ _) | (with_reducible assumption) | (with_reducible refine Below.setCell ?_ ?_ _) | (with_reducible refine Below.alloc ?_ ?_ _) | (with_reducible refine below_drewN ?_ _) | (with_reducible refine Below.drew ?_) | go_size)))) ?_); rintro e w4 ⟨z2, G3, m3, p3, rfl, hd2, hbx⟩; have HD2 := Lib.hid hd2; have HBX := Lib.hid hbx; clear hd2 hbx))
        all_goals
          clear mr mr2 mn hnz
          obtain ⟨fl3, hb3⟩ := FairI.puts HD2.out hr FL2.out HBX.out HI.out.lo0
          have FL3 := Lib.hid fl3
          have HB3 := Lib.hid hb3
          have HNE3 := Lib.hid (put_keeps (q := q2) (i := r) (k := k) (sz := (G2 r).sz) (x := jv) HNE2.out)
          have HTM3 := Lib.hid (show m3.t ≤ 100 + 40 * (i : Int) + 8 by have := HD2.out.tm; have := HD1.out.tm; have := HI.out.tm; omega)
          have HPN3 := Lib.hid (show ∀ j, p3 j ≤ 2 * (i + 1) from fun j => by have := HD2.out.pn j; have := HD1.out.pn j; have := HI.out.pn j; omega)
          have HTK := Lib.hid (law15_take HD2.out.at_ HD2.out.que (fun j hj => (FL3.out j hj).2.2) (by have := HTM3.out; omega))
          clear fl3 hb3 HP2 k1 k2
          go_wp2_with fail
          refine (HTK.out).mono ?_
          rintro e w5 ⟨ab, pb, kk, jj, a, G4, m4, t4, q4, c4, rfl, htd⟩
          obtain ⟨ok, hkk, hres⟩ := fair_step htd hk HNE3.out HI.out.dn HI.out.dk HI.out.ms_
          have HOK := Lib.hid (lact_Ok htd.act htd.ract)
          rw [ok] at HOK
          have HFR := Lib.hid (lact_From htd.act htd.ract)
          rw [if_pos ok] at HFR
          have HB5 : Hid (Below W.heap.size W w5) := htd.tch.below HB3.out (fun x hx => Nat.le_trans HI.out.lo0 (TkD.ge (.inr htd.at_) hx)) HB3.out.size
          have FL5 : Hid (∀ j, j < n → (G4 j).sz = 6 ∧ (G4 j).pu = false ∧ (G4 j).po = false) := fun j hj => ⟨(htd.sz j hj).trans (FL3.out j hj).1, (htd.pu j hj).trans (FL3.out j hj).2.1, htd.po j hj⟩
          have HTM5 := Lib.hid (show m4.t ≤ 100 + 40 * ((i + 1 : Nat) : Int) by have := htd.tm.2; have := HTM3.out; omega)
          have HTD := Lib.hid htd
          have HRES := Lib.hid hres
          clear htd ok hres HTK
          go_wp2_with fail
          refine (HOK.out).mono ?_
          rintro e w6 ⟨rfl, rfl⟩
          rcases HRES.out with ⟨e1, D', d1, d2, d3⟩ | ⟨e1, D', d1, d2, d3⟩
          · have hke : ((kk : Int) == (k : Int)) = true := by simp; omega
            have f1 : decide ((0 : Int) ≥ (n : Int)) = false := by simp; omega
            have f1' : decide ((n : Int) ≤ 0) = false := by simp; omega
            have HI2 : Hid (FairI W w5 wb W.heap.size b lb g cap n v rbs k (i + 1) 0 G4 c4 m4 p3 t4 q4 D') := ⟨HTD.out.at_, HTD.out.que, FL5.out, HTM5.out, HPN3.out, d1, d2, by omega, HB5.out, HI.out.lo0⟩
            clear e1 d1 d2 d3 hkk
            go_wp2_with fail
            refine (HFR.out).mono ?_
            rintro e w7 ⟨rfl, rfl⟩
            go_wp2
            go_roundw
            case rel => exact ⟨i + 1, 0, by omega, rfl, by go_num, _, _, _, _, _, _, _, HI2⟩
            case measure => simp [intOf]; omega
          · have hke : ((kk : Int) == (k : Int)) = false := by simp; omega
            have f1 : decide ((ms : Int) + 1 ≥ (n : Int)) = false := by simp; omega
            have f1' : decide ((n : Int) ≤ (ms : Int) + 1) = false := by simp; omega
            have HI2 : Hid (FairI W w5 wb W.heap.size b lb g cap n v rbs k (i + 1) (ms + 1) G4 c4 m4 p3 t4 q4 D') := ⟨HTD.out.at_, HTD.out.que, FL5.out, HTM5.out, HPN3.out, d1, d2, by omega, HB5.out, HI.out.lo0⟩
            clear e1 d1 d2 d3 hkk
            go_wp2_with fail
            refine (HFR.out).mono ?_
            rintro e w7 ⟨rfl, rfl⟩
            go_wp2
            go_roundw
            case rel => exact ⟨i + 1, ms + 1, by omega, by go_num, by go_num, _, _, _, _, _, _, _, HI2⟩
            case measure => simp [intOf]; omega
      · have d2 : decide ((i : Int) < 150) = false := by simp; omega
        have HB := Lib.hid HI.out.bel
        clear HI
        go_wp2
        go_ret
        exact ⟨by first | rfl | (simp; done), HB.out⟩
    · have d1 : decide ((i : Int) < (jn : Int)) = false := by simp; omega
      have HB := Lib.hid HI.out.bel
      clear HI
      go_wp2
      go_ret
      exact ⟨by first | rfl | (simp; done), HB.out⟩

set_option maxRecDepth 100000 in
/-- What the walk gives, for every argument: the row's own words. -/
theorem contract (H : Type) (enc : TypeId × Value → H) (W : World) (base : Nat) (args : Array Value) (ds gs : List (DataW H)) (before : List MemPlace)
    (hval : ∀ (j : Nat) t v, Try.f9.params[j]? = some t → args[j]? = some v → Value.okWide Try.prog W .any base t v)
    (hW : DataW.Whole enc Try.prog Try.f9.params.toList Rows.laneFairSpec.vars false W args.toList ds gs before) :
    Calls Try.prog 9 args W fun e W' => ∃ v, e = .returned v ∧ Rows.laneFairSpec.post enc Try.prog Try.f9 false true false false W args v W' := by
  have hW' := hW
  obtain ⟨p, q, hA0, hV, rfl, hfz, hnd⟩ := hW
  have hA : DataW.TrodAll enc Try.prog W 0 (fun _ => true) true Try.f9.params.toList args.toList ds p := hA0
  rw [Try.params9] at hA hval
  obtain ⟨v0, vs0, d0, ds0, p0, q0, hargs, rfl, rfl, h0, r0⟩ := trodAll_cons hA
  obtain ⟨v1, vs1, d1, ds1, p1, q1, rfl, rfl, rfl, h1, r1⟩ := trodAll_cons r0
  obtain ⟨v2, vs2, d2, ds2, p2, q2, rfl, rfl, rfl, h2, r2⟩ := trodAll_cons r1
  obtain ⟨rfl, rfl, rfl⟩ := trodAll_nil r2
  obtain rfl : args = #[v0, v1, v2] := by cases args; simp_all
  obtain ⟨a0, rfl, b0⟩ := open_i64 Try.underlying3 (hval 0 3 v0 rfl rfl) h0
  obtain ⟨a1, rfl, b1⟩ := open_i64 Try.underlying3 (hval 1 3 v1 rfl rfl) h1
  have b2 := open_jobs15 Try.underlying58 Try.underlying66 (by kernel_rfl) (by kernel_rfl) (by kernel_rfl) (by kernel_rfl) (by kernel_rfl) (hval 2 58 v2 rfl rfl) h2
  refine (walk W a0 b0 a1 b1 v2 b2).mono fun e W' ⟨he, hb⟩ => ?_
  subst he
  exact close_true (by kernel_rfl) Try.underlying4 (by kernel_rfl) (by kernel_rfl) rfl rfl hW' hb

set_option maxRecDepth 100000 in
theorem lifted (os : Os) (started : os.Started) (H : Type) (enc : TypeId × Value → H) :
    ReturnsInHanded {} Try.checked os 9 .any (Rows.laneFairSpec.pre6 enc Try.prog Try.f9 Rows.laneFairRow.domain false) (Rows.laneFairSpec.post enc Try.prog Try.f9 false true false false) := by
  refine returnsInHanded_of_change (C := Try.checked) own started (by kernel_rfl) Try.func9
    (ChangeSpec.witness6 (enc := enc) (C := Try.checked) false ⟨#[], #[.int .i64 0, .int .i64 0, .slice none 0 0], []⟩ 8 (by kernel_rfl) (by kernel_rfl) (by kernel_rfl) (by kernel_rfl)) ?_
  intro W base args ds gs before hval hW _ _
  exact contract H enc W base args ds gs before hval hW

theorem proved : Rows.LaneFairSaid :=
  OpenClaim.holds_of_wide 9 Try.f9 rfl rfl rfl rfl rfl rfl rfl ⟨rfl, rfl, rfl, rfl, rfl⟩ rfl rfl rfl rfl rfl (by kernel_rfl) Try.func9 (by kernel_rfl)
    (of_decide_eq_true (by kernel_rfl)) (by unfold Func.isWrapper; first | (rw [if_pos (by decide +kernel)]; kernel_rfl) | (rw [if_neg (by decide +kernel)]; exact ⟨rfl, rfl⟩))
    (fun os started H enc _ => lifted os started H enc)
#print axioms proved
end Go.Proofs.Ytbnmgkedcpfdeaa.laneFair
