/-
  One puts, one takes, by whatever turns: in the order of their Marks it is a queue; none makes more than one step at once, or more than eight. No condition.
-/
import Derived.Test.YtjbdmifcdgllcaaRows
import Derived.Test.YtjbdmifcdgllcaaTsB
import Derived.Test.YtjbdmifcdgllcaaRgT
import Derived.Test.YtjbdmifcdgllcaaRgU
import Derived.Test.YtjbdmifcdgllcaaOpenU
import Derived.Test.YtjbdmifcdgllcaaOpenI
import Derived.Test.YtjbdmifcdgllcaaQue
import Derived.Deep.RegionHeld3
import Derived.WalkKit
import Derived.ProofKit
import Derived.OpenShut
namespace Go.Proofs.Ytjbdmifcdgllcaa.ringTurns
open Go.ChangeShapes Go.WideShapes Go.ChangeAt Go.RowKit
open Go.ChangeMaps (open_string)
set_option linter.unusedVariables false

theorem own : ownKnob Try.prog.godebug = none := by kernel_rfl

set_option maxRecDepth 100000 in
set_option maxHeartbeats 6400000 in
theorem walk (W : World) (a0 : Int) (e0 : Nat) (c0 : e0 < 18446744073709551616) (a1 : Value) (l1 : List Int) (b1 : Sl W W.heap.size 1 a1 l1.length (kv .u64 l1)) (c1 : ∀ x ∈ l1, 0 ≤ x ∧ x ≤ 18446744073709551615) (a2 : Value) (l2 : List Int) (b2 : Sl W W.heap.size 1 a2 l2.length (kv .i64 l2)) (c2 : ∀ x ∈ l2, -9223372036854775808 ≤ x ∧ x ≤ 9223372036854775807) :
    Calls Try.prog 4 #[.agg #[.int .i64 a0, .int .u64 (e0 : Int)], a1, a2] W (Says (.bool true) W) := by
  obtain ⟨A1, n1, cap1, rfl, hl1c, hl1m⟩ : ∃ A n c, a1 = .slice A n c ∧ n ≤ c ∧ c ≤ maxLen ∧ n = l1.length := by
    obtain ⟨A, c, e1, e2, e3⟩ := b1.form
    exact ⟨A, _, c, e1, e2, e3, rfl⟩
  obtain ⟨hl1m, hn1l⟩ := hl1m
  obtain ⟨A2, n2, cap2, rfl, hl2c, hl2m⟩ : ∃ A n c, a2 = .slice A n c ∧ n ≤ c ∧ c ≤ maxLen ∧ n = l2.length := by
    obtain ⟨A, c, e1, e2, e3⟩ := b2.form
    exact ⟨A, _, c, e1, e2, e3, rfl⟩
  obtain ⟨hl2m, hn2l⟩ := hl2m
  unfold maxLen at hl1m hl2m
  rw [← hn1l] at b1
  rw [← hn2l] at b2
  have HL1 : Hid (∀ i, i < n1 → ∃ bb off, A1 = some ⟨bb, off, none⟩ ∧ bb < W.heap.size ∧ W.cell? ⟨bb, off + i, none⟩ = some (.int .u64 (l1.getD i 0))) := fun i hi => by
    obtain ⟨bb, off, cap, e, _, _, hbb, hcc⟩ := b1.at_ (by omega)
    cases e
    exact ⟨bb, off, rfl, hbb, (hcc i (by omega)).trans (kv_getElem? .u64 l1 i (by omega))⟩
  have HL2 : Hid (∀ i, i < n2 → ∃ bb off, A2 = some ⟨bb, off, none⟩ ∧ bb < W.heap.size ∧ W.cell? ⟨bb, off + i, none⟩ = some (.int .i64 (l2.getD i 0))) := fun i hi => by
    obtain ⟨bb, off, cap, e, _, _, hbb, hcc⟩ := b2.at_ (by omega)
    cases e
    exact ⟨bb, off, rfl, hbb, (hcc i (by omega)).trans (kv_getElem? .i64 l2 i (by omega))⟩
  have HN1L := Lib.hid hn1l
  clear b1 b2 c1 c2 hn1l hn2l
  obtain ⟨q0, hq8, hqw⟩ := mod_u64 a0 8 (by omega) (by omega)
  have HQW : Hid (wrap64 ((IntKind.u64.wrap a0).tmod 8) = (q0 : Int)) := hqw
  obtain ⟨n, hn⟩ : ∃ n, n = q0 + 1 := ⟨_, rfl⟩
  clear hqw
  obtain ⟨C, hC⟩ : ∃ C, C = n + 2 := ⟨_, rfl⟩
  have HN1 : Hid (wrap64 (1 + (q0 : Int)) = (n : Int)) := (by show _ = _; rw [show 1 + (q0 : Int) = (n : Int) by omega]; exact IntWalk.wrap64_in _ (by omega))
  have HN2 : Hid (wrap64 ((n : Int) + 2) = (C : Int)) := (by show _ = _; rw [show (n : Int) + 2 = (C : Int) by omega]; exact IntWalk.wrap64_in _ (by omega))
  have h8 : 1 ≤ n ∧ n ≤ 8 := by omega
  have hC1 : 1 ≤ C ∧ C ≤ 1048576 := by omega
  have hC3 : 0 + 2 + n ≤ (newS C 0).C := by show 0 + 2 + n ≤ C; omega
  have ht0 : (newS C 0).t ≤ 4611686018427387900 := by show (0 : Int) ≤ _; omega
  have hq := newQ (s := newS C 0) (ba := 0) (sz := n) (st := (e0 : Int)) hC3 (by show C ≤ _; omega) h8.1 (by omega) (by omega) (by omega)
  have X0 := Lib.hid hq
  have HC := Lib.hid (And.intro hC1 (And.intro hC3 (And.intro ht0 (And.intro h8.1 (show n ≤ 64 by omega)))))
  have H8 := Lib.hid h8
  clear hq8 hn hC hC1 hC3 ht0 hq h8
  go_enter Try.func4, Try.ntmps4
  have hqw' := HQW.out
  have hn1 := HN1.out
  have hn5 := HN2.out
  go_wp2_with fail
  obtain ⟨W0, hW0⟩ : ∃ W0, W0 = W.alloc (.cells #[.int .i64 a0, .int .u64 (e0 : Int)] 48) := ⟨_, rfl⟩
  have HBW0 : Hid (Below W.heap.size W W0) := by rw [hW0]; exact (Below.refl _ _).alloc (Nat.le_refl _) _
  have k0 : W0.cell? ⟨W.heap.size, 1, none⟩ = some (.int .u64 (e0 : Int)) := by rw [hW0]; simp [go_sem]
  have hWX : W.heap.size < W0.heap.size := by rw [hW0]; simp
  rw [← hW0]
  clear hW0
  simp only [hqw', hn1, hn5]
  refine (mem_New C 0 HC.out.1 (Nat.zero_le _) _).mono ?_
  rintro e w1 ⟨b, rfl, hm, hb⟩
  have M1 := Lib.hid hm
  have B1 := Lib.hid hb
  have kk := (hb.cell (p := ⟨W.heap.size, 1, none⟩) hWX).trans k0
  clear hm hb hqw' hn1 hn5 k0
  go_wp2_with fail
  refine (ring_New M1.out HC.out.2.2.1 0 n HC.out.2.1 HC.out.2.2.2.1 HC.out.2.2.2.2 (e0 : Int)).mono ?_
  rintro e w2 ⟨rb, rfl, hr, hle, htt⟩
  have hq := X0.out
  obtain ⟨G0, hG0⟩ : ∃ G, G = newR (newS C 0) 0 n (e0 : Int) := ⟨_, rfl⟩
  rw [← hG0] at hr hq
  have HG : Hid (G0.pu = false ∧ G0.po = false ∧ G0.sz = n ∧ G0.m.t = 2) := by rw [hG0]; exact ⟨rfl, rfl, rfl, rfl⟩
  have R2 := Lib.hid hr
  have X2 := Lib.hid hq
  have B2 := Lib.hid (htt.below B1.out (Nat.le_refl _) B1.out.size)
  clear hr hq htt hle hG0 M1 B1 kk
  go_wp2_with fail
  refine (told14 _).mono ?_
  rintro e w3 ⟨rfl, hb⟩
  have B3 := Lib.hid (B2.out.trans (hb.mono B2.out.size))
  have R3 := Lib.hid (R2.out.below hb)
  clear hb R2 B2
  go_wp2
  obtain ⟨w4, hw4⟩ : ∃ w4, w4 = (w3.alloc (.cells #[.int .i64 0, .int .i64 0] 51)).alloc (.cells #[.int .i64 (-1), .int .i64 (-1)] 51) := ⟨_, rfl⟩
  obtain ⟨st, hst⟩ : ∃ st, st = w3.heap.size := ⟨_, rfl⟩
  obtain ⟨nw, hnw⟩ : ∃ nw, nw = st + 1 := ⟨_, rfl⟩
  have HS0 : Hid (TurnS W0 w4 W0.heap.size b rb st nw 0 0 0 0 (fun _ => 0) (fun _ => ⟨true, 0, 0, 0, false, 0⟩) (fun _ => 0) (fun _ => 0) (.slice none 0 0) (.slice none 0 0) (.slice none 0 0) G0 (fun _ => 0) (fun _ => -1)) := by
    have hb4 : Below w3.heap.size w3 w4 := by rw [hw4]; exact ((Below.refl _ _).alloc (Nat.le_refl _) _).alloc (by simp) _
    have hrl := R3.out.lt
    have hro := R3.out.out
    refine ⟨R3.out.below hb4, fun i hi => absurd hi (by omega), World.ownsRow_nil _ _ _ _, World.ownsRow_nil _ _ _ _, World.ownsRow_nil _ _ _ _, fun z hz => ?_, fun z hz => ?_, fun z => ?_, fun z => ?_, ⟨hro, by omega, by omega, ?_⟩, fun i hi => absurd hi (by omega), fun i hi => absurd hi (by omega), fun i j hi => absurd hi (by omega), fun k => ⟨fun e => (by cases e), fun e => (by cases e)⟩, by omega, B3.out.trans (hb4.mono B3.out.size), Nat.le_refl _⟩
    · rw [hw4, hst]
      have : z = 0 ∨ z = 1 := by omega
      rcases this with rfl | rfl <;> simp [go_sem]
    · rw [hw4, hnw, hst]
      have : z = 0 ∨ z = 1 := by omega
      rcases this with rfl | rfl <;> simp [go_sem]
    · rw [hw4, hst]; simp [go_sem]
    · rw [hw4, hnw, hst]; simp [go_sem]
    · rw [hw4]; simp; omega
  have HP0 : Hid (TurnP n l1 0 (fun _ => ⟨true, 0, 0, 0, false, 0⟩) (fun _ => 0) (fun _ => 0) G0 0 0 [] 0 (fun _ => -1) (fun _ => 0) []) :=
    ⟨X2.out, HG.out.2.2.1, fun z hz => .inl ⟨rfl, by unfold busyR; split; exact HG.out.1; exact HG.out.2.1⟩, fun i hi => absurd hi (by omega), fun i hi => absurd hi (by omega), fun i hi => absurd hi (by omega), fun i hi => absurd hi (by omega), Nat.zero_le _, List.Pairwise.nil, fun i => by simp, rfl, Nat.le_refl _, fun e => (by rw [HG.out.1] at e; cases e), by rw [HG.out.2.2.2]; decide⟩
  have HT0 := Lib.hid HG.out.2.2.2
  rw [← hw4, ← hst]
  rw [show st + 1 = nw from hnw.symm]
  clear hw4 hst hnw R3 X2 HG B3
  go_loopw [12, 13, 14, 17, 18] (fun sa sp sf sat si wr => ∃ (N at' j : Nat) (Aa : Option Addr) (ca : Nat) (Ap : Option Addr) (cp : Nat) (Af : Option Addr) (cf : Nat), sa = .slice Aa N ca ∧ sp = .slice Ap N cp ∧ sf = .slice Af N cf ∧ sat = .int .i64 at' ∧ si = .int .i64 j ∧ j ≤ 2000 ∧ N ≤ j ∧ Hid (∃ ab ac pt fr g p t q nwf stf R, TurnS W0 wr W0.heap.size b rb st nw N N N N ab ac pt fr (.slice Aa N ca) (.slice Ap N cp) (.slice Af N cf) g stf nwf ∧ TurnP n l1 N ac pt fr g p t q at' nwf stf R ∧ g.m.t ≤ 2 + (j : Int))) (fun _ _ _ _ si _ => 2001 - (intOf si).toNat)
  case atStart => exact ⟨0, 0, 0, none, 0, none, 0, none, 0, rfl, rfl, rfl, rfl, rfl, by omega, by omega, _, _, _, _, _, _, _, _, _, _, _, HS0.out, HP0.out, by have := HT0.out; omega⟩
  case round =>
    obtain ⟨N, at', j, Aa, ca, Ap, cp, Af, cf, rfl, rfl, rfl, rfl, rfl, hj2, hNj, HR⟩ := hrel
    clear HS0 HP0 HT0
    by_cases hin : j < n2
    · by_cases hj3 : j < 2000
      · have d1 : decide ((j : Int) < (n2 : Int)) = true := by simp; omega
        have d2 : decide ((j : Int) < 2000) = true := by simp; omega
        obtain ⟨bb, off, hA, hbb, hcc⟩ := HL2.out j hin
        subst hA
        obtain ⟨ab, ac, pt, fr, g, p, t, q, nwf, stf, R, hS, hP, hT⟩ := HR.out
        have S := Lib.hid hS
        have P := Lib.hid hP
        have TM := Lib.hid hT
        have cl2 := ((HBW0.out.trans (hS.bel.mono HBW0.out.size)).cell (p := ⟨bb, off + j, none⟩) hbb).trans hcc
        obtain ⟨K, hK2, hmod⟩ := mod_u64 (l2.getD j 0) 2 (by omega) (by omega)
        have HMD : Hid (wrap64 ((IntKind.u64.wrap (l2.getD j 0)).tmod 2) = (K : Int)) := hmod
        clear hS hP hT hmod hcc HR
        generalize l2.getD j 0 = pick at *
        have hK : K = 0 ∨ K = 1 := by omega
        clear hK2
        rcases hK with rfl | rfl
        · as_aux_lemma =>
            rcases P.out.way 0 (by omega) with ⟨hn, hb⟩ | ⟨i, hi, hn, hb, _⟩
            · have cnw : wr.cell? ⟨nw, 0, none⟩ = some (.int .i64 (-1)) := by rw [← hn]; exact S.out.nc 0 (by omega)
              by_cases hat : at' < n1
              · have d5 : decide ((at' : Int) ≥ (n1 : Int)) = false := by simp; omega
                have d5' : decide ((n1 : Int) ≤ (at' : Int)) = false := by simp; omega
                obtain ⟨bb1, off1, hA1, hbb1, hcc1⟩ := HL1.out at' hat
                subst hA1
                have cl1 := ((HBW0.out.trans (S.out.bel.mono HBW0.out.size)).cell (p := ⟨bb1, off1 + at', none⟩) hbb1).trans hcc1
                clear hcc1
                have hb1 : g.pu = false := hb
                have HCL := Lib.hid (ring_Push S.out.ring hb1 (l1.getD at' 0))
                have hmd : wrap64 ((IntKind.u64.wrap pick).tmod 2) = 0 := HMD.out
                have hordS := S.out.ord
                clear hb hb1
                go_wp2_with fail
                simp only [hmd]
                clear hmd cnw
                refine (HCL.out).mono ?_
                rintro e w5 ⟨rfl, hr, ha, ht⟩
                obtain ⟨ak, hak⟩ : ∃ ak, ak = wr.heap.size := ⟨_, rfl⟩
                rw [← hak] at ha ⊢
                obtain ⟨gx, hgx⟩ : ∃ gx : RgS, gx = { g with pu := true } := ⟨_, rfl⟩
                have hown : (Value.slice Aa N ca).ownBlock ≠ some ak ∧ (Value.slice Ap N cp).ownBlock ≠ some ak ∧ (Value.slice Af N cf).ownBlock ≠ some ak := ⟨fun e => by have := (S.out.oa.lt _ e).2; omega, fun e => by have := (S.out.op.lt _ e).2; omega, fun e => by have := (S.out.of_.lt _ e).2; omega⟩
                have hne : ∀ i, i < N → ab i ≠ ak := fun i hi => by have := (S.out.act i hi).lt; omega
                have S4 : TurnS W0 w5 W0.heap.size b rb st nw N N N N ab ac pt fr (.slice Aa N ca) (.slice Ap N cp) (.slice Af N cf) gx stf nwf := S.out.go (ak := ak) ht (by omega) (fun x _ e => .inr (.inl e)) hown (by rw [hgx]; exact hr) (fun i hi => .inr ⟨hne i hi, rfl⟩)
                have S5 := Lib.hid (S4.more ha (by omega) hne hown)
                have HOV := Lib.hid (over_at ha (z := false) rfl)
                have HMK := act_Mark ha
                have HMK : Hid (Calls Try.prog 26 #[.pointer (some ⟨ak, 0, none⟩)] w5 fun e w' => e = .returned (.int .i64 0) ∧ w5 = w') := HMK
                have PN := Lib.hid (P.out.new (z := 0) (by omega) hn (a := ⟨true, 1, 0, l1.getD at' 0, false, 0⟩) (P := (at' : Int)) (at' := (at' + 1)) (g' := gx) (by rw [hgx]; rfl) (by rfl) ⟨fun _ => ⟨rfl, rfl, by have := HN1L.out; omega, rfl⟩, fun e => absurd e (by omega)⟩)
                have TMX := Lib.hid (show gx.m.t ≤ 2 + (j : Int) by rw [hgx]; exact TM.out)
                have HGT : Hid (gx.m.t = g.m.t) := by rw [hgx]; rfl
                have n1' := S5.out.nc 0 (by omega)
                have n2' := S5.out.nfz 0
                have S6 := S5.out.set_nw (z := 0) (by omega) (N : Int)
                have n3' := S6.sc 0 (by omega)
                have n4' := S6.sfz 0
                clear S6
                have n5' := S5.out.ord
                have hord : rb < st ∧ st < nw := ⟨n5'.2.1, n5'.2.2.1⟩
                clear n5' hgx S4 hr ha ht hak hown hne HCL hn S TM hordS
                generalize stf 0 = sold at n3'
                generalize nwf 0 = nold at n1'
                have S8 := Lib.hid ((S5.out.set_nw (z := 0) (by omega) (N : Int)).set_st (z := 0) (by omega) 0)
                have hN2 : N + 1 ≤ 2001 := by omega
                have HST5 := Lib.hid S5.out.ord.2.2.2
                go_wp2_with fail
                refine (HOV.out).mono ?_
                rintro e wq ⟨rfl, rfl⟩
                go_wp2_with fail
                refine (HMK.out).mono ?_
                rintro e wq ⟨rfl, rfl⟩
                clear HOV HMK S5
                go_wp2_with (first
                  | (at_builtin; refine wpList_apv _ rfl stActs _ _ rfl (nw + 1) (.slice Aa N ca) N (ptv (rp (upd ab N ak)) N) rfl (S8.out.oa.alloc _) (w5.heap.size + 1) (.slice (some ⟨w5.heap.size, 0, none⟩) 1 1) 1 [.pointer (some ⟨ak, 0, none⟩)] rfl (Sl.lit_at (by simp [World.setCell]) rfl (by decide)) (by simp [Value.oneCell']) (by omega) (by have := HST5.out; first | go_size | (simp [World.setCell]; omega) | (simp; omega)) ?_; intro Ab cb w9 hown2 hgr2 hat2 hbel2; have S9 := Lib.hid (S8.out.app_a (by omega) (by rw [upd_same]; exact hown2) hgr2 hat2); have HST9 := Lib.hid S9.out.ord.2.2.2; clear hown2 hgr2 hat2 hbel2)
                  | (at_builtin; refine wpList_apv _ rfl stInts _ _ rfl (nw + 1) (.slice Ap N cp) N (kvf pt N) rfl (S9.out.op.alloc _) (w9.heap.size + 1) (.slice (some ⟨w9.heap.size, 0, none⟩) 1 1) 1 [.int .i64 (at' : Int)] rfl (Sl.lit_at (by simp [World.setCell]) rfl (by decide)) (by simp [Value.oneCell']) (by omega) (by have := HST9.out; first | go_size | (simp [World.setCell]; omega) | (simp; omega)) ?_; intro Aq cq w10 hown2 hgr2 hat2 hbel2; have S10 := Lib.hid (S9.out.app_p (by omega) (at' : Int) hown2 hgr2 hat2); have HST10 := Lib.hid S10.out.ord.2.2.2; have HTM10 := mem_Time S10.out.ring.mem; rw [HGT.out] at HTM10; have HTM10 := Lib.hid HTM10; clear hown2 hgr2 hat2 hbel2)
                  | (go_at_call 27; (with_reducible refine Calls.mono HTM10.out ?_); rintro e wq ⟨rfl, rfl⟩)
                  | (at_builtin; refine wpList_apv _ rfl stInts _ _ rfl (nw + 1) (.slice Af N cf) N (kvf fr N) rfl (S10.out.of_.alloc _) (w10.heap.size + 1) (.slice (some ⟨w10.heap.size, 0, none⟩) 1 1) 1 [.int .i64 g.m.t] rfl (Sl.lit_at (by simp [World.setCell]) rfl (by decide)) (by simp [Value.oneCell']) (by omega) (by have := HST10.out; first | go_size | (simp [World.setCell]; omega) | (simp; omega)) ?_; intro Ag cg w11 hown2 hgr2 hat2 hbel2; have S11 := Lib.hid (S10.out.app_f (by omega) g.m.t hown2 hgr2 hat2); clear hown2 hgr2 hat2 hbel2))
                (try clear HTM10); clear S8 S9 S10 HGT HST5 HST9 HST10 n1' n2' n3' n4'
                obtain ⟨ab2, hab2⟩ : ∃ f, f = upd ab N ak := ⟨_, rfl⟩
                obtain ⟨ac2, hac2⟩ : ∃ f, f = upd ac N ⟨true, 1, 0, l1.getD at' 0, false, 0⟩ := ⟨_, rfl⟩
                obtain ⟨pt2, hpt2⟩ : ∃ f, f = upd pt N (at' : Int) := ⟨_, rfl⟩
                obtain ⟨fr2, hfr2⟩ : ∃ f, f = upd fr N g.m.t := ⟨_, rfl⟩
                obtain ⟨stf2, hstf2⟩ : ∃ f, f = upd stf 0 0 := ⟨_, rfl⟩
                obtain ⟨nwf2, hnwf2⟩ : ∃ f, f = upd nwf 0 (N : Int) := ⟨_, rfl⟩
                rw [← hab2, ← hac2, ← hpt2, ← hfr2, ← hstf2, ← hnwf2] at S11
                rw [← hac2, ← hpt2, ← hfr2, ← hstf2, ← hnwf2] at PN
                obtain ⟨i, hiN1⟩ : ∃ i : Nat, i = N := ⟨_, rfl⟩
                have hi : i < N + 1 := by omega
                have hiB : i < N + 1 := by omega
                have hiC : (i : Int) < (N : Int) + 1 := by omega
                have hn : nwf2 0 = (i : Int) := by rw [hnwf2, hiN1]; exact upd_same _ _ _
                clear hab2 hac2 hpt2 hfr2 hstf2 hnwf2 hiN1 P
                -- the act i goes on; (N + 1) acts there are
                have hwz : i < (N + 1) := hi
                obtain ⟨sz, hsz⟩ : ∃ sz, sz = stf2 0 := ⟨_, rfl⟩
                obtain ⟨hs1, hs4, hstp⟩ := PN.out.step (z := 0) (by omega) hi hn (by omega)
                have hst3 : 0 ≤ sz ∧ sz ≤ 3 := by
                  rcases PN.out.way 0 (by omega) with ⟨w1, _⟩ | ⟨i', w1, w2, _, _, _, _, w7⟩
                  · omega
                  · have e : i' = i := by omega
                    subst e
                    omega
                obtain ⟨hst0, hst3⟩ := hst3
                rw [← hsz] at hstp
                have hiN : Hid (i < (N + 1)) := hi
                obtain ⟨T, hTT⟩ : ∃ T, T = gx.m.t := ⟨_, rfl⟩
                have HTT := Lib.hid hTT
                have HTI := mem_Time S11.out.ring.mem
                rw [← hTT] at HTI
                have HTI := Lib.hid HTI
                have hT0 : 0 ≤ T := by rw [hTT]; exact PN.out.t0
                have hT2 : T ≤ 2 + (j : Int) := by rw [hTT]; exact TMX.out
                have cst : w11.cell? ⟨st, 0, none⟩ = some (.int .i64 sz) := by rw [hsz]; exact S11.out.sc 0 (by omega)
                have fst : w11.frozen? ⟨st, 0, none⟩ = false := S11.out.sfz 0
                have HSZ := Lib.hid hsz
                have HHN := Lib.hid hn
                obtain ⟨w1, hw1⟩ : ∃ w1, w1 = w11.setCell ⟨st, 0, none⟩ (.int .i64 (sz + 1)) := ⟨_, rfl⟩
                have S1 : Hid (TurnS W0 w1 W0.heap.size b rb st nw (N + 1) (N + 1) (N + 1) (N + 1) ab2 ac2 pt2 fr2 (.slice Ab (N + 1) cb) (.slice Aq (N + 1) cq) (.slice Ag (N + 1) cg) gx (upd stf2 0 (sz + 1)) nwf2) := by rw [hw1]; exact S11.out.set_st (z := 0) (by omega) _
                obtain ⟨ga, cga, ea, hc1, hc2, hga, _, hcell⟩ := own_cells S1.out.oa (by omega)
                cases ea
                obtain ⟨gf, cgf, ef, hc3, hc4, hgf, _, hcellf⟩ := own_cells S1.out.of_ (by omega)
                cases ef
                unfold maxLen at hc2 hc4
                have k1 : w1.cell? ⟨ga, i, none⟩ = some (.pointer (some ⟨ab2 i, 0, none⟩)) := (hcell i hi).trans (ptv_at _ hi)
                have k2 : w1.cell? ⟨nw, 0, none⟩ = some (.int .i64 (i : Int)) := by rw [← hn]; exact S1.out.nc 0 (by omega)
                have HAS := Lib.hid (act_Step S1.out.ring (S1.out.act i hi) (by have := S1.out.anw i hi; have := S1.out.ord; omega) (by have := S1.out.anw i hi; have := S1.out.ord; omega) (by rw [← hTT]; omega) hs4)
                obtain ⟨g', hg'⟩ : ∃ g', g' = (stepR gx (ac2 i)).1 := ⟨_, rfl⟩
                obtain ⟨a', ha'⟩ : ∃ a', a' = (stepR gx (ac2 i)).2 := ⟨_, rfl⟩
                have stay := stayR gx (ac2 i) hs1 hs4
                have HT' := Lib.hid (show g'.m.t = T + 1 by rw [hg', stay.t, hTT])
                rw [← hg', ← ha'] at HAS
                rw [← ha'] at hstp
                rw [← hg'] at hstp
                have STP := Lib.hid hstp
                have HS2 : Hid (∀ w2, RingAt w2 W0.heap.size b rb g' → ActAt w2 rb (ab2 i) a' → Tch (RingD W0.heap.size rb (ab2 i)) w1 w2 → TurnS W0 w2 W0.heap.size b rb st nw (N + 1) (N + 1) (N + 1) (N + 1) ab2 (upd ac2 i a') pt2 fr2 (.slice (some ⟨ga, 0, none⟩) (N + 1) cb) (.slice Aq (N + 1) cq) (.slice (some ⟨gf, 0, none⟩) (N + 1) cg) g' (upd stf2 0 (sz + 1)) nwf2) := fun w2 x1 x2 x3 =>
                  S1.out.go x3 (S1.out.anw i hi) (fun x _ h => h) (S1.out.ne i hi) x1 (fun i' hi' => by
                    by_cases e : i' = i
                    · subst e; exact .inl ⟨rfl, by rw [upd_same]; exact x2⟩
                    · exact .inr ⟨fun e' => e (S1.out.inj _ _ hi' hi e'), upd_other _ e _⟩)
                have FRI : Hid (fr2 i ≤ T ∧ 0 ≤ fr2 i) := ⟨by rw [hTT]; exact (PN.out.fr0 i hi).2, (PN.out.fr0 i hi).1⟩
                clear hsz hstp hTT hn hwz hi hcell hcellf hg' ha' stay hs1 hs4 PN S11 TMX
                refine (HTI.out).mono ?_
                rintro e wq ⟨rfl, rfl⟩
                rw [hw1] at k1 k2
                go_wp2_with fail
                rw [← hw1]
                rw [← hw1] at k1 k2
                clear cst fst HTI
                refine (HAS.out).mono ?_
                rintro e w2 ⟨rfl, hr2, ha2, ht2⟩
                have S2 := Lib.hid (HS2.out w2 hr2 ha2 ht2)
                clear hr2 ha2 ht2 HAS HS2 k1 k2 S1 hw1
                have HTI2 := mem_Time S2.out.ring.mem
                rw [HT'.out] at HTI2
                have HTI2 := Lib.hid HTI2
                have cst : w2.cell? ⟨st, 0, none⟩ = some (.int .i64 (sz + 1)) := by have := S2.out.sc 0 (by omega); rw [upd_same] at this; exact this
                have e1 : decide (T + 1 > T + 1) = false := by simp
                have e2 : decide (sz + 1 > 8) = false := by simp; omega
                have e2' : decide (8 < sz + 1) = false := by simp; omega
                go_wp2_with fail
                refine (HTI2.out).mono ?_
                rintro e wq ⟨rfl, rfl⟩
                rcases STP.out with ⟨h0, hp⟩ | ⟨h0, hmk, p', t', q', hp⟩
                · have hz : decide (a'.stage = 0) = false := decide_eq_false h0
                  have P2 := Lib.hid hp
                  have HL' := Lib.hid (show g'.m.t ≤ 2 + ((j + 1 : Nat) : Int) by have := HT'.out; omega)
                  clear h0 hp STP HTI2 FRI
                  rw [hz]
                  go_wp2
                  go_roundw
                  case rel => exact ⟨(N + 1), (at' + 1), j + 1, some ⟨ga, 0, none⟩, cb, Aq, cq, some ⟨gf, 0, none⟩, cg, rfl, rfl, rfl, by go_num, by go_num, by omega, by omega, ab2, upd ac2 i a', pt2, fr2, g', p, t, q, nwf2, upd stf2 0 (sz + 1), R, S2.out, by first | exact P2.out | (have := P2.out; rw [← HSZ.out] at this; exact this), HL'.out⟩
                  case measure => simp [intOf]; omega
                · have hz : decide (a'.stage = 0) = true := decide_eq_true h0
                  have P2 := Lib.hid hp
                  have HL' := Lib.hid (show g'.m.t ≤ 2 + ((j + 1 : Nat) : Int) by have := HT'.out; omega)
                  have hi := hiN.out
                  obtain ⟨ga', cga', ea', _, hc2', _, _, hcell'⟩ := own_cells S2.out.oa (by omega)
                  cases ea'
                  obtain ⟨gf', cgf', ef', _, hc4', _, _, hcellf'⟩ := own_cells S2.out.of_ (by omega)
                  cases ef'
                  have k1 : w2.cell? ⟨ga, i, none⟩ = some (.pointer (some ⟨ab2 i, 0, none⟩)) := (hcell' i hi).trans (ptv_at _ hi)
                  have k2 : w2.cell? ⟨nw, 0, none⟩ = some (.int .i64 (i : Int)) := by rw [← HHN.out]; exact S2.out.nc 0 (by omega)
                  have k3 : w2.cell? ⟨gf, i, none⟩ = some (.int .i64 (fr2 i)) := (hcellf' i hi).trans (kvf_at _ hi)
                  have k4 : w2.frozen? ⟨nw, 0, none⟩ = false := S2.out.nfz 0
                  have hmk2 := act_Mark (S2.out.act i hi)
                  rw [upd_same, hmk, ← HTT.out] at hmk2
                  have HMK := Lib.hid hmk2
                  have f1 : decide (T + 1 ≤ fr2 i) = false := by simp; have := FRI.out.1; omega
                  have S3 := Lib.hid (S2.out.set_nw (z := 0) (by omega) (-1))
                  clear h0 hp STP hcell' hcellf' hmk hmk2 FRI
                  generalize fr2 i = FI at *
                  rw [hz]
                  go_wp2_with fail
                  refine (HMK.out).mono ?_
                  rintro e wq ⟨rfl, rfl⟩
                  go_wp2_with fail
                  refine (HTI2.out).mono ?_
                  rintro e wq ⟨rfl, rfl⟩
                  go_wp2
                  go_roundw
                  case rel => exact ⟨(N + 1), (at' + 1), j + 1, some ⟨ga, 0, none⟩, cb, Aq, cq, some ⟨gf, 0, none⟩, cg, rfl, rfl, rfl, by go_num, by go_num, by omega, by omega, ab2, upd ac2 i a', pt2, fr2, g', p', t', q', upd nwf2 0 (-1), upd stf2 0 (sz + 1), R ++ [i], S3.out, by first | exact P2.out | (have := P2.out; rw [← HSZ.out] at this; exact this), HL'.out⟩
                  case measure => simp [intOf]; omega
              · have d5 : decide ((at' : Int) ≥ (n1 : Int)) = true := by simp; omega
                have d5' : decide ((n1 : Int) ≤ (at' : Int)) = true := by simp; omega
                have hmd : wrap64 ((IntKind.u64.wrap pick).tmod 2) = 0 := HMD.out
                have TM' := Lib.hid (show g.m.t ≤ 2 + ((j + 1 : Nat) : Int) by have := TM.out; omega)
                clear hb hn
                go_wp2
                go_roundw
                case rel => exact ⟨N, at', j + 1, Aa, ca, Ap, cp, Af, cf, rfl, rfl, rfl, rfl, by go_num, by omega, by omega, ab, ac, pt, fr, g, p, t, q, nwf, stf, R, S.out, P.out, TM'.out⟩
                case measure => simp [intOf]; omega
            · have cnw : wr.cell? ⟨nw, 0, none⟩ = some (.int .i64 (i : Int)) := by rw [← hn]; exact S.out.nc 0 (by omega)
              have d4 : decide ((i : Int) < 0) = false := by simp
              have hmd : wrap64 ((IntKind.u64.wrap pick).tmod 2) = 0 := HMD.out
              clear hb
              -- the act i goes on; N acts there are
              have hwz : i < N := hi
              obtain ⟨sz, hsz⟩ : ∃ sz, sz = stf 0 := ⟨_, rfl⟩
              obtain ⟨hs1, hs4, hstp⟩ := P.out.step (z := 0) (by omega) hi hn (by omega)
              have hst3 : 0 ≤ sz ∧ sz ≤ 3 := by
                rcases P.out.way 0 (by omega) with ⟨w1, _⟩ | ⟨i', w1, w2, _, _, _, _, w7⟩
                · omega
                · have e : i' = i := by omega
                  subst e
                  omega
              obtain ⟨hst0, hst3⟩ := hst3
              rw [← hsz] at hstp
              have hiN : Hid (i < N) := hi
              obtain ⟨T, hTT⟩ : ∃ T, T = g.m.t := ⟨_, rfl⟩
              have HTT := Lib.hid hTT
              have HTI := mem_Time S.out.ring.mem
              rw [← hTT] at HTI
              have HTI := Lib.hid HTI
              have hT0 : 0 ≤ T := by rw [hTT]; exact P.out.t0
              have hT2 : T ≤ 2 + (j : Int) := by rw [hTT]; exact TM.out
              have cst : wr.cell? ⟨st, 0, none⟩ = some (.int .i64 sz) := by rw [hsz]; exact S.out.sc 0 (by omega)
              have fst : wr.frozen? ⟨st, 0, none⟩ = false := S.out.sfz 0
              have HSZ := Lib.hid hsz
              have HHN := Lib.hid hn
              obtain ⟨w1, hw1⟩ : ∃ w1, w1 = wr.setCell ⟨st, 0, none⟩ (.int .i64 (sz + 1)) := ⟨_, rfl⟩
              have S1 : Hid (TurnS W0 w1 W0.heap.size b rb st nw N N N N ab ac pt fr (.slice Aa N ca) (.slice Ap N cp) (.slice Af N cf) g (upd stf 0 (sz + 1)) nwf) := by rw [hw1]; exact S.out.set_st (z := 0) (by omega) _
              obtain ⟨ga, cga, ea, hc1, hc2, hga, _, hcell⟩ := own_cells S1.out.oa (by omega)
              cases ea
              obtain ⟨gf, cgf, ef, hc3, hc4, hgf, _, hcellf⟩ := own_cells S1.out.of_ (by omega)
              cases ef
              unfold maxLen at hc2 hc4
              have k1 : w1.cell? ⟨ga, i, none⟩ = some (.pointer (some ⟨ab i, 0, none⟩)) := (hcell i hi).trans (ptv_at _ hi)
              have k2 : w1.cell? ⟨nw, 0, none⟩ = some (.int .i64 (i : Int)) := by rw [← hn]; exact S1.out.nc 0 (by omega)
              have HAS := Lib.hid (act_Step S1.out.ring (S1.out.act i hi) (by have := S1.out.anw i hi; have := S1.out.ord; omega) (by have := S1.out.anw i hi; have := S1.out.ord; omega) (by rw [← hTT]; omega) hs4)
              obtain ⟨g', hg'⟩ : ∃ g', g' = (stepR g (ac i)).1 := ⟨_, rfl⟩
              obtain ⟨a', ha'⟩ : ∃ a', a' = (stepR g (ac i)).2 := ⟨_, rfl⟩
              have stay := stayR g (ac i) hs1 hs4
              have HT' := Lib.hid (show g'.m.t = T + 1 by rw [hg', stay.t, hTT])
              rw [← hg', ← ha'] at HAS
              rw [← ha'] at hstp
              rw [← hg'] at hstp
              have STP := Lib.hid hstp
              have HS2 : Hid (∀ w2, RingAt w2 W0.heap.size b rb g' → ActAt w2 rb (ab i) a' → Tch (RingD W0.heap.size rb (ab i)) w1 w2 → TurnS W0 w2 W0.heap.size b rb st nw N N N N ab (upd ac i a') pt fr (.slice (some ⟨ga, 0, none⟩) N ca) (.slice Ap N cp) (.slice (some ⟨gf, 0, none⟩) N cf) g' (upd stf 0 (sz + 1)) nwf) := fun w2 x1 x2 x3 =>
                S1.out.go x3 (S1.out.anw i hi) (fun x _ h => h) (S1.out.ne i hi) x1 (fun i' hi' => by
                  by_cases e : i' = i
                  · subst e; exact .inl ⟨rfl, by rw [upd_same]; exact x2⟩
                  · exact .inr ⟨fun e' => e (S1.out.inj _ _ hi' hi e'), upd_other _ e _⟩)
              have FRI : Hid (fr i ≤ T ∧ 0 ≤ fr i) := ⟨by rw [hTT]; exact (P.out.fr0 i hi).2, (P.out.fr0 i hi).1⟩
              clear hsz hstp hTT hn hwz hi hcell hcellf hg' ha' stay hs1 hs4 P S TM
              go_wp2_with fail
              refine (HTI.out).mono ?_
              rintro e wq ⟨rfl, rfl⟩
              rw [hw1] at k1 k2
              go_wp2_with fail
              rw [← hw1]
              rw [← hw1] at k1 k2
              clear cst fst HTI
              refine (HAS.out).mono ?_
              rintro e w2 ⟨rfl, hr2, ha2, ht2⟩
              have S2 := Lib.hid (HS2.out w2 hr2 ha2 ht2)
              clear hr2 ha2 ht2 HAS HS2 k1 k2 S1 hw1
              have HTI2 := mem_Time S2.out.ring.mem
              rw [HT'.out] at HTI2
              have HTI2 := Lib.hid HTI2
              have cst : w2.cell? ⟨st, 0, none⟩ = some (.int .i64 (sz + 1)) := by have := S2.out.sc 0 (by omega); rw [upd_same] at this; exact this
              have e1 : decide (T + 1 > T + 1) = false := by simp
              have e2 : decide (sz + 1 > 8) = false := by simp; omega
              have e2' : decide (8 < sz + 1) = false := by simp; omega
              go_wp2_with fail
              refine (HTI2.out).mono ?_
              rintro e wq ⟨rfl, rfl⟩
              rcases STP.out with ⟨h0, hp⟩ | ⟨h0, hmk, p', t', q', hp⟩
              · have hz : decide (a'.stage = 0) = false := decide_eq_false h0
                have P2 := Lib.hid hp
                have HL' := Lib.hid (show g'.m.t ≤ 2 + ((j + 1 : Nat) : Int) by have := HT'.out; omega)
                clear h0 hp STP HTI2 FRI
                rw [hz]
                go_wp2
                go_roundw
                case rel => exact ⟨N, at', j + 1, some ⟨ga, 0, none⟩, ca, Ap, cp, some ⟨gf, 0, none⟩, cf, rfl, rfl, rfl, rfl, by go_num, by omega, by omega, ab, upd ac i a', pt, fr, g', p, t, q, nwf, upd stf 0 (sz + 1), R, S2.out, by first | exact P2.out | (have := P2.out; rw [← HSZ.out] at this; exact this), HL'.out⟩
                case measure => simp [intOf]; omega
              · have hz : decide (a'.stage = 0) = true := decide_eq_true h0
                have P2 := Lib.hid hp
                have HL' := Lib.hid (show g'.m.t ≤ 2 + ((j + 1 : Nat) : Int) by have := HT'.out; omega)
                have hi := hiN.out
                obtain ⟨ga', cga', ea', _, hc2', _, _, hcell'⟩ := own_cells S2.out.oa (by omega)
                cases ea'
                obtain ⟨gf', cgf', ef', _, hc4', _, _, hcellf'⟩ := own_cells S2.out.of_ (by omega)
                cases ef'
                have k1 : w2.cell? ⟨ga, i, none⟩ = some (.pointer (some ⟨ab i, 0, none⟩)) := (hcell' i hi).trans (ptv_at _ hi)
                have k2 : w2.cell? ⟨nw, 0, none⟩ = some (.int .i64 (i : Int)) := by rw [← HHN.out]; exact S2.out.nc 0 (by omega)
                have k3 : w2.cell? ⟨gf, i, none⟩ = some (.int .i64 (fr i)) := (hcellf' i hi).trans (kvf_at _ hi)
                have k4 : w2.frozen? ⟨nw, 0, none⟩ = false := S2.out.nfz 0
                have hmk2 := act_Mark (S2.out.act i hi)
                rw [upd_same, hmk, ← HTT.out] at hmk2
                have HMK := Lib.hid hmk2
                have f1 : decide (T + 1 ≤ fr i) = false := by simp; have := FRI.out.1; omega
                have S3 := Lib.hid (S2.out.set_nw (z := 0) (by omega) (-1))
                clear h0 hp STP hcell' hcellf' hmk hmk2 FRI
                generalize fr i = FI at *
                rw [hz]
                go_wp2_with fail
                refine (HMK.out).mono ?_
                rintro e wq ⟨rfl, rfl⟩
                go_wp2_with fail
                refine (HTI2.out).mono ?_
                rintro e wq ⟨rfl, rfl⟩
                go_wp2
                go_roundw
                case rel => exact ⟨N, at', j + 1, some ⟨ga, 0, none⟩, ca, Ap, cp, some ⟨gf, 0, none⟩, cf, rfl, rfl, rfl, rfl, by go_num, by omega, by omega, ab, upd ac i a', pt, fr, g', p', t', q', upd nwf 0 (-1), upd stf 0 (sz + 1), R ++ [i], S3.out, by first | exact P2.out | (have := P2.out; rw [← HSZ.out] at this; exact this), HL'.out⟩
                case measure => simp [intOf]; omega
        · as_aux_lemma =>
            rcases P.out.way 1 (by omega) with ⟨hn, hb⟩ | ⟨i, hi, hn, hb, _⟩
            · have cnw : wr.cell? ⟨nw, 1, none⟩ = some (.int .i64 (-1)) := by rw [← hn]; exact S.out.nc 1 (by omega)
              have hb1 : g.po = false := hb
              have HCL := Lib.hid (ring_Pop S.out.ring hb1)
              have hmd : wrap64 ((IntKind.u64.wrap pick).tmod 2) = 1 := HMD.out
              have hordS := S.out.ord
              clear hb hb1
              go_wp2_with fail
              simp only [hmd]
              clear hmd cnw
              refine (HCL.out).mono ?_
              rintro e w5 ⟨rfl, hr, ha, ht⟩
              obtain ⟨ak, hak⟩ : ∃ ak, ak = wr.heap.size := ⟨_, rfl⟩
              rw [← hak] at ha ⊢
              obtain ⟨gx, hgx⟩ : ∃ gx : RgS, gx = { g with po := true } := ⟨_, rfl⟩
              have hown : (Value.slice Aa N ca).ownBlock ≠ some ak ∧ (Value.slice Ap N cp).ownBlock ≠ some ak ∧ (Value.slice Af N cf).ownBlock ≠ some ak := ⟨fun e => by have := (S.out.oa.lt _ e).2; omega, fun e => by have := (S.out.op.lt _ e).2; omega, fun e => by have := (S.out.of_.lt _ e).2; omega⟩
              have hne : ∀ i, i < N → ab i ≠ ak := fun i hi => by have := (S.out.act i hi).lt; omega
              have S4 : TurnS W0 w5 W0.heap.size b rb st nw N N N N ab ac pt fr (.slice Aa N ca) (.slice Ap N cp) (.slice Af N cf) gx stf nwf := S.out.go (ak := ak) ht (by omega) (fun x _ e => .inr (.inl e)) hown (by rw [hgx]; exact hr) (fun i hi => .inr ⟨hne i hi, rfl⟩)
              have S5 := Lib.hid (S4.more ha (by omega) hne hown)
              have HOV := Lib.hid (over_at ha (z := false) rfl)
              have HMK := act_Mark ha
              have HMK : Hid (Calls Try.prog 26 #[.pointer (some ⟨ak, 0, none⟩)] w5 fun e w' => e = .returned (.int .i64 0) ∧ w5 = w') := HMK
              have PN := Lib.hid (P.out.new (z := 1) (by omega) hn (a := ⟨false, 1, 0, 0, false, 0⟩) (P := (-1)) (at' := at') (g' := gx) (by rw [hgx]; rfl) (by rfl) ⟨fun e => absurd e (by omega), fun _ => ⟨rfl, rfl⟩⟩)
              have TMX := Lib.hid (show gx.m.t ≤ 2 + (j : Int) by rw [hgx]; exact TM.out)
              have HGT : Hid (gx.m.t = g.m.t) := by rw [hgx]; rfl
              have n1' := S5.out.nc 1 (by omega)
              have n2' := S5.out.nfz 1
              have S6 := S5.out.set_nw (z := 1) (by omega) (N : Int)
              have n3' := S6.sc 1 (by omega)
              have n4' := S6.sfz 1
              clear S6
              have n5' := S5.out.ord
              have hord : rb < st ∧ st < nw := ⟨n5'.2.1, n5'.2.2.1⟩
              clear n5' hgx S4 hr ha ht hak hown hne HCL hn S TM hordS
              generalize stf 1 = sold at n3'
              generalize nwf 1 = nold at n1'
              have S8 := Lib.hid ((S5.out.set_nw (z := 1) (by omega) (N : Int)).set_st (z := 1) (by omega) 0)
              have hN2 : N + 1 ≤ 2001 := by omega
              have HST5 := Lib.hid S5.out.ord.2.2.2
              go_wp2_with fail
              refine (HOV.out).mono ?_
              rintro e wq ⟨rfl, rfl⟩
              go_wp2_with fail
              refine (HMK.out).mono ?_
              rintro e wq ⟨rfl, rfl⟩
              clear HOV HMK S5
              go_wp2_with (first
                | (at_builtin; refine wpList_apv _ rfl stActs _ _ rfl (nw + 1) (.slice Aa N ca) N (ptv (rp (upd ab N ak)) N) rfl (S8.out.oa.alloc _) (w5.heap.size + 1) (.slice (some ⟨w5.heap.size, 0, none⟩) 1 1) 1 [.pointer (some ⟨ak, 0, none⟩)] rfl (Sl.lit_at (by simp [World.setCell]) rfl (by decide)) (by simp [Value.oneCell']) (by omega) (by have := HST5.out; first | go_size | (simp [World.setCell]; omega) | (simp; omega)) ?_; intro Ab cb w9 hown2 hgr2 hat2 hbel2; have S9 := Lib.hid (S8.out.app_a (by omega) (by rw [upd_same]; exact hown2) hgr2 hat2); have HST9 := Lib.hid S9.out.ord.2.2.2; clear hown2 hgr2 hat2 hbel2)
                | (at_builtin; refine wpList_apv _ rfl stInts _ _ rfl (nw + 1) (.slice Ap N cp) N (kvf pt N) rfl (S9.out.op.alloc _) (w9.heap.size + 1) (.slice (some ⟨w9.heap.size, 0, none⟩) 1 1) 1 [.int .i64 (-1)] rfl (Sl.lit_at (by simp [World.setCell]) rfl (by decide)) (by simp [Value.oneCell']) (by omega) (by have := HST9.out; first | go_size | (simp [World.setCell]; omega) | (simp; omega)) ?_; intro Aq cq w10 hown2 hgr2 hat2 hbel2; have S10 := Lib.hid (S9.out.app_p (by omega) (-1) hown2 hgr2 hat2); have HST10 := Lib.hid S10.out.ord.2.2.2; have HTM10 := mem_Time S10.out.ring.mem; rw [HGT.out] at HTM10; have HTM10 := Lib.hid HTM10; clear hown2 hgr2 hat2 hbel2)
                | (go_at_call 27; (with_reducible refine Calls.mono HTM10.out ?_); rintro e wq ⟨rfl, rfl⟩)
                | (at_builtin; refine wpList_apv _ rfl stInts _ _ rfl (nw + 1) (.slice Af N cf) N (kvf fr N) rfl (S10.out.of_.alloc _) (w10.heap.size + 1) (.slice (some ⟨w10.heap.size, 0, none⟩) 1 1) 1 [.int .i64 g.m.t] rfl (Sl.lit_at (by simp [World.setCell]) rfl (by decide)) (by simp [Value.oneCell']) (by omega) (by have := HST10.out; first | go_size | (simp [World.setCell]; omega) | (simp; omega)) ?_; intro Ag cg w11 hown2 hgr2 hat2 hbel2; have S11 := Lib.hid (S10.out.app_f (by omega) g.m.t hown2 hgr2 hat2); clear hown2 hgr2 hat2 hbel2))
              (try clear HTM10); clear S8 S9 S10 HGT HST5 HST9 HST10 n1' n2' n3' n4'
              obtain ⟨ab2, hab2⟩ : ∃ f, f = upd ab N ak := ⟨_, rfl⟩
              obtain ⟨ac2, hac2⟩ : ∃ f, f = upd ac N ⟨false, 1, 0, 0, false, 0⟩ := ⟨_, rfl⟩
              obtain ⟨pt2, hpt2⟩ : ∃ f, f = upd pt N (-1) := ⟨_, rfl⟩
              obtain ⟨fr2, hfr2⟩ : ∃ f, f = upd fr N g.m.t := ⟨_, rfl⟩
              obtain ⟨stf2, hstf2⟩ : ∃ f, f = upd stf 1 0 := ⟨_, rfl⟩
              obtain ⟨nwf2, hnwf2⟩ : ∃ f, f = upd nwf 1 (N : Int) := ⟨_, rfl⟩
              rw [← hab2, ← hac2, ← hpt2, ← hfr2, ← hstf2, ← hnwf2] at S11
              rw [← hac2, ← hpt2, ← hfr2, ← hstf2, ← hnwf2] at PN
              obtain ⟨i, hiN1⟩ : ∃ i : Nat, i = N := ⟨_, rfl⟩
              have hi : i < N + 1 := by omega
              have hiB : i < N + 1 := by omega
              have hiC : (i : Int) < (N : Int) + 1 := by omega
              have hn : nwf2 1 = (i : Int) := by rw [hnwf2, hiN1]; exact upd_same _ _ _
              clear hab2 hac2 hpt2 hfr2 hstf2 hnwf2 hiN1 P
              -- the act i goes on; (N + 1) acts there are
              have hwz : i < (N + 1) := hi
              obtain ⟨sz, hsz⟩ : ∃ sz, sz = stf2 1 := ⟨_, rfl⟩
              obtain ⟨hs1, hs4, hstp⟩ := PN.out.step (z := 1) (by omega) hi hn (by omega)
              have hst3 : 0 ≤ sz ∧ sz ≤ 3 := by
                rcases PN.out.way 1 (by omega) with ⟨w1, _⟩ | ⟨i', w1, w2, _, _, _, _, w7⟩
                · omega
                · have e : i' = i := by omega
                  subst e
                  omega
              obtain ⟨hst0, hst3⟩ := hst3
              rw [← hsz] at hstp
              have hiN : Hid (i < (N + 1)) := hi
              obtain ⟨T, hTT⟩ : ∃ T, T = gx.m.t := ⟨_, rfl⟩
              have HTT := Lib.hid hTT
              have HTI := mem_Time S11.out.ring.mem
              rw [← hTT] at HTI
              have HTI := Lib.hid HTI
              have hT0 : 0 ≤ T := by rw [hTT]; exact PN.out.t0
              have hT2 : T ≤ 2 + (j : Int) := by rw [hTT]; exact TMX.out
              have cst : w11.cell? ⟨st, 1, none⟩ = some (.int .i64 sz) := by rw [hsz]; exact S11.out.sc 1 (by omega)
              have fst : w11.frozen? ⟨st, 1, none⟩ = false := S11.out.sfz 1
              have HSZ := Lib.hid hsz
              have HHN := Lib.hid hn
              obtain ⟨w1, hw1⟩ : ∃ w1, w1 = w11.setCell ⟨st, 1, none⟩ (.int .i64 (sz + 1)) := ⟨_, rfl⟩
              have S1 : Hid (TurnS W0 w1 W0.heap.size b rb st nw (N + 1) (N + 1) (N + 1) (N + 1) ab2 ac2 pt2 fr2 (.slice Ab (N + 1) cb) (.slice Aq (N + 1) cq) (.slice Ag (N + 1) cg) gx (upd stf2 1 (sz + 1)) nwf2) := by rw [hw1]; exact S11.out.set_st (z := 1) (by omega) _
              obtain ⟨ga, cga, ea, hc1, hc2, hga, _, hcell⟩ := own_cells S1.out.oa (by omega)
              cases ea
              obtain ⟨gf, cgf, ef, hc3, hc4, hgf, _, hcellf⟩ := own_cells S1.out.of_ (by omega)
              cases ef
              unfold maxLen at hc2 hc4
              have k1 : w1.cell? ⟨ga, i, none⟩ = some (.pointer (some ⟨ab2 i, 0, none⟩)) := (hcell i hi).trans (ptv_at _ hi)
              have k2 : w1.cell? ⟨nw, 1, none⟩ = some (.int .i64 (i : Int)) := by rw [← hn]; exact S1.out.nc 1 (by omega)
              have HAS := Lib.hid (act_Step S1.out.ring (S1.out.act i hi) (by have := S1.out.anw i hi; have := S1.out.ord; omega) (by have := S1.out.anw i hi; have := S1.out.ord; omega) (by rw [← hTT]; omega) hs4)
              obtain ⟨g', hg'⟩ : ∃ g', g' = (stepR gx (ac2 i)).1 := ⟨_, rfl⟩
              obtain ⟨a', ha'⟩ : ∃ a', a' = (stepR gx (ac2 i)).2 := ⟨_, rfl⟩
              have stay := stayR gx (ac2 i) hs1 hs4
              have HT' := Lib.hid (show g'.m.t = T + 1 by rw [hg', stay.t, hTT])
              rw [← hg', ← ha'] at HAS
              rw [← ha'] at hstp
              rw [← hg'] at hstp
              have STP := Lib.hid hstp
              have HS2 : Hid (∀ w2, RingAt w2 W0.heap.size b rb g' → ActAt w2 rb (ab2 i) a' → Tch (RingD W0.heap.size rb (ab2 i)) w1 w2 → TurnS W0 w2 W0.heap.size b rb st nw (N + 1) (N + 1) (N + 1) (N + 1) ab2 (upd ac2 i a') pt2 fr2 (.slice (some ⟨ga, 0, none⟩) (N + 1) cb) (.slice Aq (N + 1) cq) (.slice (some ⟨gf, 0, none⟩) (N + 1) cg) g' (upd stf2 1 (sz + 1)) nwf2) := fun w2 x1 x2 x3 =>
                S1.out.go x3 (S1.out.anw i hi) (fun x _ h => h) (S1.out.ne i hi) x1 (fun i' hi' => by
                  by_cases e : i' = i
                  · subst e; exact .inl ⟨rfl, by rw [upd_same]; exact x2⟩
                  · exact .inr ⟨fun e' => e (S1.out.inj _ _ hi' hi e'), upd_other _ e _⟩)
              have FRI : Hid (fr2 i ≤ T ∧ 0 ≤ fr2 i) := ⟨by rw [hTT]; exact (PN.out.fr0 i hi).2, (PN.out.fr0 i hi).1⟩
              clear hsz hstp hTT hn hwz hi hcell hcellf hg' ha' stay hs1 hs4 PN S11 TMX
              refine (HTI.out).mono ?_
              rintro e wq ⟨rfl, rfl⟩
              rw [hw1] at k1 k2
              go_wp2_with fail
              rw [← hw1]
              rw [← hw1] at k1 k2
              clear cst fst HTI
              refine (HAS.out).mono ?_
              rintro e w2 ⟨rfl, hr2, ha2, ht2⟩
              have S2 := Lib.hid (HS2.out w2 hr2 ha2 ht2)
              clear hr2 ha2 ht2 HAS HS2 k1 k2 S1 hw1
              have HTI2 := mem_Time S2.out.ring.mem
              rw [HT'.out] at HTI2
              have HTI2 := Lib.hid HTI2
              have cst : w2.cell? ⟨st, 1, none⟩ = some (.int .i64 (sz + 1)) := by have := S2.out.sc 1 (by omega); rw [upd_same] at this; exact this
              have e1 : decide (T + 1 > T + 1) = false := by simp
              have e2 : decide (sz + 1 > 8) = false := by simp; omega
              have e2' : decide (8 < sz + 1) = false := by simp; omega
              go_wp2_with fail
              refine (HTI2.out).mono ?_
              rintro e wq ⟨rfl, rfl⟩
              rcases STP.out with ⟨h0, hp⟩ | ⟨h0, hmk, p', t', q', hp⟩
              · have hz : decide (a'.stage = 0) = false := decide_eq_false h0
                have P2 := Lib.hid hp
                have HL' := Lib.hid (show g'.m.t ≤ 2 + ((j + 1 : Nat) : Int) by have := HT'.out; omega)
                clear h0 hp STP HTI2 FRI
                rw [hz]
                go_wp2
                go_roundw
                case rel => exact ⟨(N + 1), at', j + 1, some ⟨ga, 0, none⟩, cb, Aq, cq, some ⟨gf, 0, none⟩, cg, rfl, rfl, rfl, rfl, by go_num, by omega, by omega, ab2, upd ac2 i a', pt2, fr2, g', p, t, q, nwf2, upd stf2 1 (sz + 1), R, S2.out, by first | exact P2.out | (have := P2.out; rw [← HSZ.out] at this; exact this), HL'.out⟩
                case measure => simp [intOf]; omega
              · have hz : decide (a'.stage = 0) = true := decide_eq_true h0
                have P2 := Lib.hid hp
                have HL' := Lib.hid (show g'.m.t ≤ 2 + ((j + 1 : Nat) : Int) by have := HT'.out; omega)
                have hi := hiN.out
                obtain ⟨ga', cga', ea', _, hc2', _, _, hcell'⟩ := own_cells S2.out.oa (by omega)
                cases ea'
                obtain ⟨gf', cgf', ef', _, hc4', _, _, hcellf'⟩ := own_cells S2.out.of_ (by omega)
                cases ef'
                have k1 : w2.cell? ⟨ga, i, none⟩ = some (.pointer (some ⟨ab2 i, 0, none⟩)) := (hcell' i hi).trans (ptv_at _ hi)
                have k2 : w2.cell? ⟨nw, 1, none⟩ = some (.int .i64 (i : Int)) := by rw [← HHN.out]; exact S2.out.nc 1 (by omega)
                have k3 : w2.cell? ⟨gf, i, none⟩ = some (.int .i64 (fr2 i)) := (hcellf' i hi).trans (kvf_at _ hi)
                have k4 : w2.frozen? ⟨nw, 1, none⟩ = false := S2.out.nfz 1
                have hmk2 := act_Mark (S2.out.act i hi)
                rw [upd_same, hmk, ← HTT.out] at hmk2
                have HMK := Lib.hid hmk2
                have f1 : decide (T + 1 ≤ fr2 i) = false := by simp; have := FRI.out.1; omega
                have S3 := Lib.hid (S2.out.set_nw (z := 1) (by omega) (-1))
                clear h0 hp STP hcell' hcellf' hmk hmk2 FRI
                generalize fr2 i = FI at *
                rw [hz]
                go_wp2_with fail
                refine (HMK.out).mono ?_
                rintro e wq ⟨rfl, rfl⟩
                go_wp2_with fail
                refine (HTI2.out).mono ?_
                rintro e wq ⟨rfl, rfl⟩
                go_wp2
                go_roundw
                case rel => exact ⟨(N + 1), at', j + 1, some ⟨ga, 0, none⟩, cb, Aq, cq, some ⟨gf, 0, none⟩, cg, rfl, rfl, rfl, rfl, by go_num, by omega, by omega, ab2, upd ac2 i a', pt2, fr2, g', p', t', q', upd nwf2 1 (-1), upd stf2 1 (sz + 1), R ++ [i], S3.out, by first | exact P2.out | (have := P2.out; rw [← HSZ.out] at this; exact this), HL'.out⟩
                case measure => simp [intOf]; omega
            · have cnw : wr.cell? ⟨nw, 1, none⟩ = some (.int .i64 (i : Int)) := by rw [← hn]; exact S.out.nc 1 (by omega)
              have d4 : decide ((i : Int) < 0) = false := by simp
              have hmd : wrap64 ((IntKind.u64.wrap pick).tmod 2) = 1 := HMD.out
              clear hb
              -- the act i goes on; N acts there are
              have hwz : i < N := hi
              obtain ⟨sz, hsz⟩ : ∃ sz, sz = stf 1 := ⟨_, rfl⟩
              obtain ⟨hs1, hs4, hstp⟩ := P.out.step (z := 1) (by omega) hi hn (by omega)
              have hst3 : 0 ≤ sz ∧ sz ≤ 3 := by
                rcases P.out.way 1 (by omega) with ⟨w1, _⟩ | ⟨i', w1, w2, _, _, _, _, w7⟩
                · omega
                · have e : i' = i := by omega
                  subst e
                  omega
              obtain ⟨hst0, hst3⟩ := hst3
              rw [← hsz] at hstp
              have hiN : Hid (i < N) := hi
              obtain ⟨T, hTT⟩ : ∃ T, T = g.m.t := ⟨_, rfl⟩
              have HTT := Lib.hid hTT
              have HTI := mem_Time S.out.ring.mem
              rw [← hTT] at HTI
              have HTI := Lib.hid HTI
              have hT0 : 0 ≤ T := by rw [hTT]; exact P.out.t0
              have hT2 : T ≤ 2 + (j : Int) := by rw [hTT]; exact TM.out
              have cst : wr.cell? ⟨st, 1, none⟩ = some (.int .i64 sz) := by rw [hsz]; exact S.out.sc 1 (by omega)
              have fst : wr.frozen? ⟨st, 1, none⟩ = false := S.out.sfz 1
              have HSZ := Lib.hid hsz
              have HHN := Lib.hid hn
              obtain ⟨w1, hw1⟩ : ∃ w1, w1 = wr.setCell ⟨st, 1, none⟩ (.int .i64 (sz + 1)) := ⟨_, rfl⟩
              have S1 : Hid (TurnS W0 w1 W0.heap.size b rb st nw N N N N ab ac pt fr (.slice Aa N ca) (.slice Ap N cp) (.slice Af N cf) g (upd stf 1 (sz + 1)) nwf) := by rw [hw1]; exact S.out.set_st (z := 1) (by omega) _
              obtain ⟨ga, cga, ea, hc1, hc2, hga, _, hcell⟩ := own_cells S1.out.oa (by omega)
              cases ea
              obtain ⟨gf, cgf, ef, hc3, hc4, hgf, _, hcellf⟩ := own_cells S1.out.of_ (by omega)
              cases ef
              unfold maxLen at hc2 hc4
              have k1 : w1.cell? ⟨ga, i, none⟩ = some (.pointer (some ⟨ab i, 0, none⟩)) := (hcell i hi).trans (ptv_at _ hi)
              have k2 : w1.cell? ⟨nw, 1, none⟩ = some (.int .i64 (i : Int)) := by rw [← hn]; exact S1.out.nc 1 (by omega)
              have HAS := Lib.hid (act_Step S1.out.ring (S1.out.act i hi) (by have := S1.out.anw i hi; have := S1.out.ord; omega) (by have := S1.out.anw i hi; have := S1.out.ord; omega) (by rw [← hTT]; omega) hs4)
              obtain ⟨g', hg'⟩ : ∃ g', g' = (stepR g (ac i)).1 := ⟨_, rfl⟩
              obtain ⟨a', ha'⟩ : ∃ a', a' = (stepR g (ac i)).2 := ⟨_, rfl⟩
              have stay := stayR g (ac i) hs1 hs4
              have HT' := Lib.hid (show g'.m.t = T + 1 by rw [hg', stay.t, hTT])
              rw [← hg', ← ha'] at HAS
              rw [← ha'] at hstp
              rw [← hg'] at hstp
              have STP := Lib.hid hstp
              have HS2 : Hid (∀ w2, RingAt w2 W0.heap.size b rb g' → ActAt w2 rb (ab i) a' → Tch (RingD W0.heap.size rb (ab i)) w1 w2 → TurnS W0 w2 W0.heap.size b rb st nw N N N N ab (upd ac i a') pt fr (.slice (some ⟨ga, 0, none⟩) N ca) (.slice Ap N cp) (.slice (some ⟨gf, 0, none⟩) N cf) g' (upd stf 1 (sz + 1)) nwf) := fun w2 x1 x2 x3 =>
                S1.out.go x3 (S1.out.anw i hi) (fun x _ h => h) (S1.out.ne i hi) x1 (fun i' hi' => by
                  by_cases e : i' = i
                  · subst e; exact .inl ⟨rfl, by rw [upd_same]; exact x2⟩
                  · exact .inr ⟨fun e' => e (S1.out.inj _ _ hi' hi e'), upd_other _ e _⟩)
              have FRI : Hid (fr i ≤ T ∧ 0 ≤ fr i) := ⟨by rw [hTT]; exact (P.out.fr0 i hi).2, (P.out.fr0 i hi).1⟩
              clear hsz hstp hTT hn hwz hi hcell hcellf hg' ha' stay hs1 hs4 P S TM
              go_wp2_with fail
              refine (HTI.out).mono ?_
              rintro e wq ⟨rfl, rfl⟩
              rw [hw1] at k1 k2
              go_wp2_with fail
              rw [← hw1]
              rw [← hw1] at k1 k2
              clear cst fst HTI
              refine (HAS.out).mono ?_
              rintro e w2 ⟨rfl, hr2, ha2, ht2⟩
              have S2 := Lib.hid (HS2.out w2 hr2 ha2 ht2)
              clear hr2 ha2 ht2 HAS HS2 k1 k2 S1 hw1
              have HTI2 := mem_Time S2.out.ring.mem
              rw [HT'.out] at HTI2
              have HTI2 := Lib.hid HTI2
              have cst : w2.cell? ⟨st, 1, none⟩ = some (.int .i64 (sz + 1)) := by have := S2.out.sc 1 (by omega); rw [upd_same] at this; exact this
              have e1 : decide (T + 1 > T + 1) = false := by simp
              have e2 : decide (sz + 1 > 8) = false := by simp; omega
              have e2' : decide (8 < sz + 1) = false := by simp; omega
              go_wp2_with fail
              refine (HTI2.out).mono ?_
              rintro e wq ⟨rfl, rfl⟩
              rcases STP.out with ⟨h0, hp⟩ | ⟨h0, hmk, p', t', q', hp⟩
              · have hz : decide (a'.stage = 0) = false := decide_eq_false h0
                have P2 := Lib.hid hp
                have HL' := Lib.hid (show g'.m.t ≤ 2 + ((j + 1 : Nat) : Int) by have := HT'.out; omega)
                clear h0 hp STP HTI2 FRI
                rw [hz]
                go_wp2
                go_roundw
                case rel => exact ⟨N, at', j + 1, some ⟨ga, 0, none⟩, ca, Ap, cp, some ⟨gf, 0, none⟩, cf, rfl, rfl, rfl, rfl, by go_num, by omega, by omega, ab, upd ac i a', pt, fr, g', p, t, q, nwf, upd stf 1 (sz + 1), R, S2.out, by first | exact P2.out | (have := P2.out; rw [← HSZ.out] at this; exact this), HL'.out⟩
                case measure => simp [intOf]; omega
              · have hz : decide (a'.stage = 0) = true := decide_eq_true h0
                have P2 := Lib.hid hp
                have HL' := Lib.hid (show g'.m.t ≤ 2 + ((j + 1 : Nat) : Int) by have := HT'.out; omega)
                have hi := hiN.out
                obtain ⟨ga', cga', ea', _, hc2', _, _, hcell'⟩ := own_cells S2.out.oa (by omega)
                cases ea'
                obtain ⟨gf', cgf', ef', _, hc4', _, _, hcellf'⟩ := own_cells S2.out.of_ (by omega)
                cases ef'
                have k1 : w2.cell? ⟨ga, i, none⟩ = some (.pointer (some ⟨ab i, 0, none⟩)) := (hcell' i hi).trans (ptv_at _ hi)
                have k2 : w2.cell? ⟨nw, 1, none⟩ = some (.int .i64 (i : Int)) := by rw [← HHN.out]; exact S2.out.nc 1 (by omega)
                have k3 : w2.cell? ⟨gf, i, none⟩ = some (.int .i64 (fr i)) := (hcellf' i hi).trans (kvf_at _ hi)
                have k4 : w2.frozen? ⟨nw, 1, none⟩ = false := S2.out.nfz 1
                have hmk2 := act_Mark (S2.out.act i hi)
                rw [upd_same, hmk, ← HTT.out] at hmk2
                have HMK := Lib.hid hmk2
                have f1 : decide (T + 1 ≤ fr i) = false := by simp; have := FRI.out.1; omega
                have S3 := Lib.hid (S2.out.set_nw (z := 1) (by omega) (-1))
                clear h0 hp STP hcell' hcellf' hmk hmk2 FRI
                generalize fr i = FI at *
                rw [hz]
                go_wp2_with fail
                refine (HMK.out).mono ?_
                rintro e wq ⟨rfl, rfl⟩
                go_wp2_with fail
                refine (HTI2.out).mono ?_
                rintro e wq ⟨rfl, rfl⟩
                go_wp2
                go_roundw
                case rel => exact ⟨N, at', j + 1, some ⟨ga, 0, none⟩, ca, Ap, cp, some ⟨gf, 0, none⟩, cf, rfl, rfl, rfl, rfl, by go_num, by omega, by omega, ab, upd ac i a', pt, fr, g', p', t', q', upd nwf 1 (-1), upd stf 1 (sz + 1), R ++ [i], S3.out, by first | exact P2.out | (have := P2.out; rw [← HSZ.out] at this; exact this), HL'.out⟩
                case measure => simp [intOf]; omega
      · have d1 : decide (j < n2) = true := by simp; omega
        have d2 : decide ((j : Int) < 2000) = false := by simp; omega
        as_aux_lemma =>
          obtain ⟨ab, ac, pt, fr, g, p, t, q, nwf, stf, R, hS, hP, hT⟩ := HR.out
          have S := Lib.hid hS
          have P := Lib.hid hP
          clear hS hP hT HR HC HQW HN1 HN2 hin
          obtain ⟨wA, rfl⟩ : ∃ x, x = wr := ⟨_, rfl⟩
          go_wp2
          go_loopw [25, 26] (fun mk i wr => ∃ (k : Nat) (Am : Option Addr) (cm : Nat), i = .int .i64 k ∧ mk = .slice Am k cm ∧ k ≤ N ∧ Hid (wr.ownsRow wA.heap.size 3 1 (.slice Am k cm) k (kvf (fun i => (ac i).mark) k)) ∧ Hid (Below wA.heap.size wA wr)) (fun _ i _ => N - (intOf i).toNat)
          case atStart => exact ⟨0, none, 0, rfl, rfl, by omega, World.ownsRow_nil _ _ _ _, Below.refl _ _⟩
          case round =>
            obtain ⟨k, Am, cm, rfl, rfl, hk, HO, HB⟩ := hrel
            by_cases hkN : k < N
            · have d6 : decide (k < N) = true := by simp; omega
              obtain ⟨ga, cga, ea, hc1, hc2, _, hga, hcell⟩ := own_cells S.out.oa (by omega)
              cases ea
              unfold maxLen at hc2
              have k1 : wr.cell? ⟨ga, k, none⟩ = some (.pointer (some ⟨ab k, 0, none⟩)) := (HB.out.cell (p := ⟨ga, k, none⟩) hga).trans ((hcell k hkN).trans (ptv_at _ hkN))
              have HMK := Lib.hid (act_Mark ((S.out.act k hkN).below HB.out))
              have hsz := HB.out.size
              clear hcell hga
              go_wp2_with (first
                | (go_at_call 26; (with_reducible refine Calls.mono HMK.out ?_); rintro e wq ⟨rfl, rfl⟩)
                | (at_builtin; refine wpList_apv _ rfl stInts _ _ rfl wA.heap.size _ k _ rfl (HO.out.alloc _) _ _ 1 [.int .i64 (ac k).mark] rfl (Sl.lit_at (by rfl) rfl (by decide)) (by simp [Value.oneCell']) (by omega) (by go_size) ?_; intro A4 c4 w9 hown9 hgr9 hat9 hbel9; clear hgr9 hat9))
              have HO9 : Hid (w9.ownsRow wA.heap.size 3 1 (.slice A4 (k + 1) c4) (k + 1) (kvf (fun i => (ac i).mark) (k + 1))) := by rw [kvf_snoc]; exact hown9
              have HB9 := Lib.hid ((HB.out.alloc HB.out.size _).trans hbel9)
              clear hown9 hbel9 HO HB HMK k1
              go_roundw
              case rel => exact ⟨k + 1, A4, c4, by go_num, rfl, by omega, HO9.out, HB9.out⟩
              case measure => simp [intOf]; omega
            · have d6 : decide (k < N) = false := by simp; omega
              obtain rfl : N = k := by omega
              have HOR := Lib.hid (P.out.order (by omega) HO.out)
              go_wp2_with fail
              refine (HOR.out).mono ?_
              rintro e w3 ⟨u, rfl, ho3, hb3⟩
              obtain ⟨r, hr⟩ : ∃ r, r = R.length := ⟨_, rfl⟩
              have HRL := Lib.hid hr
              rw [← hr] at ho3
              obtain ⟨Au, cu, hu, hcu, hcx⟩ := (Sl.of_own ho3).form
              subst hu
              unfold maxLen at hcx
              have HU : Hid (w3.ownsRow wr.heap.size 3 1 (.slice Au r cu) r (kv .i64 (R.map fun (i : Nat) => (i : Int)))) := ho3
              have HSW : Hid (wA.heap.size ≤ wr.heap.size) := HB.out.size
              have B3 := Lib.hid (HB.out.trans (hb3.mono HB.out.size))
              have h8 := H8.out
              have HQ0 : Hid (QueAt (w3.alloc (.cells #[.int .i64 (n : Nat), .slice none 0 0] 35)) w3.heap.size n (.slice none 0 0) []) :=
                ⟨World.rowIs_alloc w3 #[.int .i64 (n : Nat), .slice none 0 0] 35 (queF n (.slice none 0 0)) (fun i hi => by
                  match i, hi with
                  | 0, _ => rfl
                  | 1, _ => rfl), World.ownsRow_nil _ _ _ _⟩
              obtain ⟨w4, hw4⟩ : ∃ w4, w4 = w3.alloc (.cells #[.int .i64 (n : Nat), .slice none 0 0] 35) := ⟨_, rfl⟩
              obtain ⟨qb, hqb⟩ : ∃ qb, qb = w3.heap.size := ⟨_, rfl⟩
              have HB4 : Hid (Below qb w3 w4) := by rw [hw4, hqb]; exact (Below.refl _ _).alloc (Nat.le_refl _) _
              have HQB := Lib.hid hqb
              clear hr ho3 hb3 HO HB HOR
              go_wp2
              rw [← hw4, ← hqb] at HQ0 ⊢
              clear hw4 hqb
              go_loopw [30] (fun i wr => ∃ (k : Nat) (v : Value) (qk : List Int), i = .int .i64 k ∧ k ≤ r ∧ qk.length ≤ n ∧ Hid (QueAt wr qb n v qk) ∧ Hid (Played n (fateR l1 ac pt) (R.drop k) qk q) ∧ Hid (Below qb w3 wr)) (fun i _ => r - (intOf i).toNat)
              case atStart => exact ⟨0, _, [], rfl, by omega, by simp, HQ0.out, P.out.pl, HB4.out⟩
              case round =>
                obtain ⟨k, v, qk, rfl, hk, hqk, HQ, HPL, HB⟩ := hrel
                clear HQ0 HB4
                by_cases hkr : k < r
                · have d7 : decide (k < r) = true := by simp; omega
                  have hkr' : k < R.length := by rw [← HRL.out]; exact hkr
                  obtain ⟨i, hRi, hiN, hst0, hnx⟩ := P.out.next HPL.out hkr'
                  obtain ⟨ga, cga, ea, hc1, hc2, _, hga, hcell⟩ := own_cells S.out.oa (by omega)
                  cases ea
                  obtain ⟨gp, cgp, ep, hc3, hc4, _, hgp, hcellp⟩ := own_cells S.out.op (by omega)
                  cases ep
                  obtain ⟨gu, cgu, eu, hc5, hc6, _, hgu, hcellu, _⟩ := own_at HU.out (by rw [HRL.out]) (by omega)
                  cases eu
                  unfold maxLen at hc2 hc4 hc6
                  have HBA : Hid (∀ w', Below qb w3 w' → Below wA.heap.size wA w') := fun w' h => B3.out.trans (h.mono (by have := B3.out.size; have := HQB.out; omega))
                  have k1 : wr.cell? ⟨gu, k, none⟩ = some (.int .i64 (i : Int)) := (HB.out.cell (p := ⟨gu, k, none⟩) (by rw [HQB.out]; exact hgu)).trans (hcellu k i hRi)
                  have k2 : wr.cell? ⟨ga, i, none⟩ = some (.pointer (some ⟨ab i, 0, none⟩)) := ((HBA.out _ HB.out).cell (p := ⟨ga, i, none⟩) hga).trans ((hcell i hiN).trans (ptv_at _ hiN))
                  have k3 : wr.cell? ⟨gp, i, none⟩ = some (.int .i64 (pt i)) := ((HBA.out _ HB.out).cell (p := ⟨gp, i, none⟩) hgp).trans ((hcellp i hiN).trans (kvf_at _ hiN))
                  have HAC : Hid (∀ w', Below qb w3 w' → ActAt w' rb (ab i) (ac i)) := fun w' h => (S.out.act i hiN).below (HBA.out _ h)
                  have HQL := Lib.hid (fun kk => (HQ.out.own.lt kk))
                  clear hcell hcellp hcellu hRi hkr'
                  have HST : Hid (decide ((ac i).stage = 0) = true) := decide_eq_true hst0
                  have HTQ : Hid (∀ w', Tch (fun kk => kk = qb ∨ v.ownBlock = some kk) wr w' → Below qb w3 w') := fun w' h => h.below HB.out (fun kk hk => (by
                    rcases hk with e | e
                    · omega
                    · have := (HQL.out kk e).1
                      omega)) (by have := HB.out.size; have := HQ.out.row.lt; omega)
                  clear hst0
                  rcases hnx with ⟨x, hpx, hxl, hok, hnum, hpl⟩ | ⟨hpt, hok, hnum, hpl⟩
                  · have HPL2 := Lib.hid hpl
                    rw [hpx] at k3
                    obtain ⟨bb1, off1, hA1, hbb1, hcc1⟩ := HL1.out x (by have := HN1L.out; omega)
                    subst hA1
                    have k4 := ((HBW0.out.trans (S.out.bel.mono HBW0.out.size)).trans ((HBA.out _ HB.out).mono (by have := HBW0.out.size; have := S.out.bel.size; omega))).cell (p := ⟨bb1, off1 + x, none⟩) hbb1 |>.trans hcc1
                    have hx1 : x < n1 := by have := HN1L.out; omega
                    clear hcc1 hpl hpx hxl
                    generalize l1.getD x 0 = y at *
                    have HPU := que_Push HQ.out (by omega) y
                    have d8 : ¬ ((x : Int) < 0) := by omega
                    by_cases hlt : qk.length < n
                    · have hd : decide (qk.length < n) = true := decide_eq_true hlt
                      rw [hd] at HPU hok
                      rw [if_pos hlt] at HPU HPL2
                      have HPU := Lib.hid HPU
                      have hnum := hnum hok
                      have HOK : Hid (∀ w', Below qb w3 w' → Calls Try.prog 18 #[.pointer (some ⟨ab i, 0, none⟩)] w' fun e w2 => e = .returned (.bool true) ∧ w' = w2) := fun w' h => by have := act_Ok (HAC.out w' h); rw [hok] at this; exact this
                      have HVA : Hid (∀ w', Below qb w3 w' → Calls Try.prog 19 #[.pointer (some ⟨ab i, 0, none⟩)] w' fun e w2 => e = .returned (.int .u64 y) ∧ w' = w2) := fun w' h => by have := act_Value (HAC.out w' h); rw [if_pos hok, hnum] at this; exact this
                      have hqk3 : (qk ++ [y]).length ≤ n := by rw [List.length_append]; exact hlt
                      clear hd hok hnum hlt
                      go_wp2_with fail
                      refine (HPU.out).mono ?_
                      rintro e w5 ⟨rfl, v', hq', ht', _⟩
                      have hb5 := HTQ.out _ ht'
                      have HQ5 := Lib.hid hq'
                      have HB5 := Lib.hid hb5
                      have HOV := Lib.hid (over_at (HAC.out _ hb5) HST.out)
                      have HOK5 := Lib.hid (HOK.out _ hb5)
                      have HVA5 := Lib.hid (HVA.out _ hb5)
                      clear hq' ht' hb5 HPU HQ HPL HB HQL HTQ HOK HVA
                      go_wp2_with (first
                        | (go_at_call 25; (with_reducible refine Calls.mono HOV.out ?_); rintro e wq ⟨rfl, rfl⟩)
                        | (go_at_call 18; (with_reducible refine Calls.mono HOK5.out ?_); rintro e wq ⟨rfl, rfl⟩)
                        | (go_at_call 19; (with_reducible refine Calls.mono HVA5.out ?_); rintro e wq ⟨rfl, rfl⟩))
                      go_roundw
                      case rel => exact ⟨k + 1, v', qk ++ [y], by go_num, by omega, hqk3, HQ5.out, HPL2.out, HB5.out⟩
                      case measure => simp [intOf]; omega
                    · have hd : decide (qk.length < n) = false := decide_eq_false hlt
                      rw [hd] at HPU hok
                      rw [if_neg hlt] at HPU HPL2
                      have HPU := Lib.hid HPU
                      have HOK : Hid (∀ w', Below qb w3 w' → Calls Try.prog 18 #[.pointer (some ⟨ab i, 0, none⟩)] w' fun e w2 => e = .returned (.bool false) ∧ w' = w2) := fun w' h => by have := act_Ok (HAC.out w' h); rw [hok] at this; exact this
                      clear hd hok hnum hlt
                      go_wp2_with fail
                      refine (HPU.out).mono ?_
                      rintro e w5 ⟨rfl, v', hq', ht', _⟩
                      have hb5 := HTQ.out _ ht'
                      have HQ5 := Lib.hid hq'
                      have HB5 := Lib.hid hb5
                      have HOV := Lib.hid (over_at (HAC.out _ hb5) HST.out)
                      have HOK5 := Lib.hid (HOK.out _ hb5)
                      clear hq' ht' hb5 HPU HQ HPL HB HQL HTQ HOK
                      go_wp2_with (first
                        | (go_at_call 25; (with_reducible refine Calls.mono HOV.out ?_); rintro e wq ⟨rfl, rfl⟩)
                        | (go_at_call 18; (with_reducible refine Calls.mono HOK5.out ?_); rintro e wq ⟨rfl, rfl⟩))
                      go_roundw
                      case rel => exact ⟨k + 1, v', qk, by go_num, by omega, hqk, HQ5.out, HPL2.out, HB5.out⟩
                      case measure => simp [intOf]; omega
                  · have HPL2 := Lib.hid hpl
                    rw [hpt] at k3
                    have HPU := que_PopU HQ.out (by omega)
                    obtain ⟨z, hz⟩ : ∃ z, z = !qk.isEmpty := ⟨_, rfl⟩
                    obtain ⟨V, hV⟩ : ∃ V, V = qk.headD 0 := ⟨_, rfl⟩
                    rw [← hz] at HPU hok
                    rw [← hV] at HPU hnum
                    have HPU := Lib.hid HPU
                    have HOK : Hid (∀ w', Below qb w3 w' → Calls Try.prog 18 #[.pointer (some ⟨ab i, 0, none⟩)] w' fun e w2 => e = .returned (.bool z) ∧ w' = w2) := fun w' h => by have := act_Ok (HAC.out w' h); rw [hok] at this; exact this
                    have HVA : Hid (∀ w', Below qb w3 w' → Calls Try.prog 19 #[.pointer (some ⟨ab i, 0, none⟩)] w' fun e w2 => e = .returned (.int .u64 V) ∧ w' = w2) := fun w' h => by have := act_Value (HAC.out w' h); rw [hnum] at this; exact this
                    have hzz : (z != z) = false := by simp
                    have hVV : (V != V) = false := by simp
                    have hqk2 : qk.tail.length ≤ n := by rw [List.length_tail]; omega
                    clear hz hV hok hnum hpl hpt
                    go_wp2_with fail
                    refine (HPU.out).mono ?_
                    rintro e w5 ⟨rfl, v', hq', ht', _⟩
                    have hb5 := HTQ.out _ ht'
                    have HQ5 := Lib.hid hq'
                    have HB5 := Lib.hid hb5
                    have HOV := Lib.hid (over_at (HAC.out _ hb5) HST.out)
                    have HOK5 := Lib.hid (HOK.out _ hb5)
                    have HVA5 := Lib.hid (HVA.out _ hb5)
                    clear hq' ht' hb5 HPU HQ HPL HB HQL HTQ HOK HVA
                    go_wp2_with (first
                      | (go_at_call 25; (with_reducible refine Calls.mono HOV.out ?_); rintro e wq ⟨rfl, rfl⟩)
                      | (go_at_call 18; (with_reducible refine Calls.mono HOK5.out ?_); rintro e wq ⟨rfl, rfl⟩)
                      | (go_at_call 19; (with_reducible refine Calls.mono HVA5.out ?_); rintro e wq ⟨rfl, rfl⟩))
                    go_roundw
                    case rel => exact ⟨k + 1, v', qk.tail, by go_num, by omega, hqk2, HQ5.out, HPL2.out, HB5.out⟩
                    case measure => simp [intOf]; omega
                · have d7 : decide (k < r) = false := by simp; omega
                  have hrk : R.length ≤ k := by rw [← HRL.out]; omega
                  have hqe : q = qk := by
                    have := HPL.out
                    rw [List.drop_eq_nil_of_le hrk] at this
                    exact this
                  have HBA := Lib.hid (B3.out.trans (HB.out.mono (by have := B3.out.size; have := HQB.out; omega)))
                  have hnw : nw < wA.heap.size := S.out.ord.2.2.2
                  have hsz := HBA.out.size
                  have hqlt : qb < wr.heap.size := HQ.out.row.lt
                  have HBZ := Lib.hid ((HBW0.out.trans (S.out.bel.mono HBW0.out.size)).trans (HBA.out.mono (by have := HBW0.out.size; have := S.out.bel.size; omega)))
                  have HWZ : Hid (W.heap.size ≤ wr.heap.size) := by have := HBW0.out.size; have := S.out.bel.size; exact (show W.heap.size ≤ wr.heap.size by omega)
                  have c0' : wr.cell? ⟨nw, 0, none⟩ = some (.int .i64 (nwf 0)) := (HBA.out.cell (p := ⟨nw, 0, none⟩) hnw).trans (S.out.nc 0 (by omega))
                  have c1' : wr.cell? ⟨nw, 1, none⟩ = some (.int .i64 (nwf 1)) := (HBA.out.cell (p := ⟨nw, 1, none⟩) hnw).trans (S.out.nc 1 (by omega))
                  clear hrk HPL
                  rcases P.out.way 0 (by omega) with ⟨hn0, hb0⟩ | ⟨i0, _, hn0, _⟩
                  · rcases P.out.way 1 (by omega) with ⟨hn1, hb1⟩ | ⟨i1, _, hn1, _⟩
                    · rw [hn0] at c0'
                      rw [hn1] at c1'
                      have R5 := Lib.hid (S.out.ring.below HBA.out)
                      have X5 := Lib.hid P.out.rq
                      have Q5 := Lib.hid HQ.out
                      subst hqe
                      have c2' : wr.cell? ⟨qb, 1, none⟩ = some v := Q5.out.row.cell (by omega)
                      clear HQ hn0 hn1 hb0 hb1 S P B3 HB HBA HU
                      have HLN : Hid (∀ w', Below wr.heap.size wr w' → Calls Try.prog 22 #[.pointer (some ⟨rb, 0, none⟩)] w' (Quiet (.int .i64 (q.length : Nat)) w')) := fun w' hb => ring_Len (R5.out.below hb) X5.out
                      have HLS : Hid (∀ w', Below wr.heap.size wr w' → Calls Try.prog 24 #[.pointer (some ⟨rb, 0, none⟩)] w' fun e w2 => ∃ u, e = .returned u ∧ w2.ownsRow w'.heap.size 22 1 u q.length (kv .u64 q) ∧ Below w'.heap.size w' w2) := fun w' hb => ring_List (R5.out.below hb) X5.out
                      have HSM : Hid (∀ w' u, w'.ownsRow wr.heap.size 22 1 u q.length (kv .u64 q) → Below wr.heap.size wr w' → Calls Try.prog 23 #[u, v] w' (Quiet (.bool true) w')) := fun w' u hu hb => ref14_Same (Sl.of_own hu) ((Sl.of_own Q5.out.own).below hb)
                      obtain ⟨A2, cap2, hv2, _, _⟩ := (Sl.of_own Q5.out.own).form
                      subst hv2
                      obtain ⟨L2, hL2⟩ : ∃ L, L = q.length := ⟨_, rfl⟩
                      rw [← hL2] at HLN HLS HSM c2'
                      have hll : ((L2 : Int) != (L2 : Int)) = false := by simp
                      clear hL2
                      go_wp2_with fail
                      go_region_held3 (fun w' => w'.cell? ⟨nw, 0, none⟩ = some (.int .i64 (-1)) ∧ w'.cell? ⟨nw, 1, none⟩ = some (.int .i64 (-1)) ∧ w'.cell? ⟨qb, 1, none⟩ = some (.slice A2 L2 cap2)) (first | (with_reducible exact ⟨c0', c1', c2'⟩) | (with_reducible exact keepT (by assumption) (fun p hp => hbu.cell (by rcases hp with hp | hp <;> rw [hp] <;> go_size))) | go_keep) (first
                        | (go_at_call 22; (with_reducible refine Calls.mono (HLN.out _ (by (repeat' (first | (with_reducible exact Below.refl _ _) | (with_reducible assumption) | (with_reducible refine Below.setCell ?_ ?_ _) | (with_reducible refine Below.alloc ?_ ?_ _) | (with_reducible refine below_drewN ?_ _) | (with_reducible refine Below.drew ?_) | go_size)))) ?_); rintro e w6 ⟨rfl, nq6, rfl⟩)
                        | (go_at_call 24; (with_reducible refine Calls.mono (HLS.out _ (by (repeat' (first | (with_reducible exact Below.refl _ _) | (with_reducible assumption) | (with_reducible refine Below.setCell ?_ ?_ _) | (with_reducible refine Below.alloc ?_ ?_ _) | (with_reducible refine below_drewN ?_ _) | (with_reducible refine Below.drew ?_) | go_size)))) ?_); rintro e w7 ⟨u7, rfl, hu7, hbu⟩; have HB7 : Below wr.heap.size wr w7 := Below.trans (by (repeat' (first | (with_reducible exact Below.refl _ _) | (with_reducible assumption) | (with_reducible refine Below.setCell ?_ ?_ _) | (with_reducible refine Below.alloc ?_ ?_ _) | (with_reducible refine below_drewN ?_ _) | (with_reducible refine Below.drew ?_) | go_size))) (hbu.mono (by go_size)); have HU7 := Lib.hid (own_base hu7 (base' := wr.heap.size) (by go_size)); clear hu7)
                        | (go_at_call 23; (with_reducible refine Calls.mono (HSM.out _ _ HU7.out (by (repeat' (first | (with_reducible exact Below.refl _ _) | (with_reducible assumption) | (with_reducible refine Below.setCell ?_ ?_ _) | (with_reducible refine Below.alloc ?_ ?_ _) | (with_reducible refine below_drewN ?_ _) | (with_reducible refine Below.drew ?_) | go_size)))) ?_); rintro e w8 ⟨rfl, nq8, rfl⟩))
                      all_goals
                        have HB9 := Lib.hid HB7
                        go_wp2
                        go_ret
                        exact ⟨rfl, below_drewN (HBZ.out.trans (HB9.out.mono HWZ.out)) _⟩
                    · rw [hn0] at c0'
                      rw [hn1] at c1'
                      have d8 : decide ((i1 : Int) < 0) = false := by simp
                      have d9 : decide (0 ≤ (i1 : Int)) = true := by simp
                      clear HQ hn0 hn1 hb0 S P B3 HB HBA HU
                      go_wp2_with fail
                      refine wp_region_held_drew (S := fun w' => w'.cell? ⟨nw, 0, none⟩ = some (.int .i64 (-1)) ∧ w'.cell? ⟨nw, 1, none⟩ = some (.int .i64 (i1 : Int))) (by kernel_rfl) ?_ (fun hHeld => ?_)
                      · exact ⟨c0', c1'⟩
                      refine wpAnyH_take (i := 0) (oi := { dst := some 278, op := Go.Op.indexAddr 51 (Go.Operand.tmp 16) (Go.Operand.const (Go.Value.int Go.IntKind.i64 0)), type := 0, pos := "law.go:149", after := #[], guard := none }) (v := ?_) rfl (by kernel_rfl) (by kernel_rfl) (by kernel_rfl) (fun _ _ _ h => h) (Or.inl ⟨by rfl, ?_⟩) (by assumption) ?_
                      rotate_left
                      · intro w hSw
                        (try dsimp only at hSw)
                        go_simp
                        try with_reducible rfl
                      (try simp only [Act.put, List.setIfInBounds_toArray, List.set_cons_zero, List.set_cons_succ])
                      refine wpAnyH_take (i := 1) (oi := { dst := some 279, op := Go.Op.load 3 (Go.Operand.tmp 278), type := 3, pos := "law.go:149", after := #[{ on := 0, ground := Go.Ground.data }], guard := none }) (v := ?_) rfl (by kernel_rfl) (by kernel_rfl) (by kernel_rfl) (fun _ _ _ h => h) (Or.inl ⟨by rfl, ?_⟩) (by assumption) ?_
                      rotate_left
                      · intro w hSw
                        (try dsimp only at hSw)
                        go_simp
                        try with_reducible rfl
                      (try simp only [Act.put, List.setIfInBounds_toArray, List.set_cons_zero, List.set_cons_succ])
                      refine wpAnyH_take (i := 2) (oi := { dst := some 280, op := Go.Op.binOp Go.BinOp.geq 3 (Go.Operand.tmp 279) (Go.Operand.const (Go.Value.int Go.IntKind.i64 0)) 3, type := 4, pos := "law.go:149", after := #[{ on := 1, ground := Go.Ground.data }], guard := none }) (v := ?_) rfl (by kernel_rfl) (by kernel_rfl) (by kernel_rfl) (fun _ _ _ h => h) (Or.inl ⟨by rfl, ?_⟩) (by assumption) ?_
                      rotate_left
                      · intro w hSw
                        (try dsimp only at hSw)
                        go_simp
                        try with_reducible rfl
                      (try simp only [Act.put, List.setIfInBounds_toArray, List.set_cons_zero, List.set_cons_succ])
                      refine wpAnyH_take (i := 3) (oi := { dst := some 281, op := Go.Op.move (Go.Operand.tmp 280), type := 4, pos := "law.go:149", after := #[{ on := 2, ground := Go.Ground.data }], guard := none }) (v := ?_) rfl (by kernel_rfl) (by kernel_rfl) (by kernel_rfl) (fun _ _ _ h => h) (Or.inl ⟨by rfl, ?_⟩) (by assumption) ?_
                      rotate_left
                      · intro w hSw
                        (try dsimp only at hSw)
                        go_simp
                        try with_reducible rfl
                      (try simp only [Act.put, List.setIfInBounds_toArray, List.set_cons_zero, List.set_cons_succ])
                      refine wpAnyH_take (i := 4) (oi := { dst := some 282, op := Go.Op.indexAddr 51 (Go.Operand.tmp 16) (Go.Operand.const (Go.Value.int Go.IntKind.i64 1)), type := 0, pos := "law.go:149", after := #[{ on := 3, ground := Go.Ground.guard }], guard := some (3, false) }) (v := ?_) rfl (by kernel_rfl) (by kernel_rfl) (by kernel_rfl) (fun _ _ _ h => h) (Or.inl ⟨by rfl, ?_⟩) (by assumption) ?_
                      rotate_left
                      · intro w hSw
                        (try dsimp only at hSw)
                        go_simp
                        try with_reducible rfl
                      (try simp only [Act.put, List.setIfInBounds_toArray, List.set_cons_zero, List.set_cons_succ])
                      refine wpAnyH_take (i := 5) (oi := { dst := some 283, op := Go.Op.load 3 (Go.Operand.tmp 282), type := 3, pos := "law.go:149", after := #[{ on := 4, ground := Go.Ground.data }, { on := 3, ground := Go.Ground.guard }], guard := some (3, false) }) (v := ?_) rfl (by kernel_rfl) (by kernel_rfl) (by kernel_rfl) (fun _ _ _ h => h) (Or.inl ⟨by rfl, ?_⟩) (by assumption) ?_
                      rotate_left
                      · intro w hSw
                        (try dsimp only at hSw)
                        go_simp
                        try with_reducible rfl
                      (try simp only [Act.put, List.setIfInBounds_toArray, List.set_cons_zero, List.set_cons_succ])
                      refine wpAnyH_take (i := 6) (oi := { dst := some 284, op := Go.Op.binOp Go.BinOp.geq 3 (Go.Operand.tmp 283) (Go.Operand.const (Go.Value.int Go.IntKind.i64 0)) 3, type := 4, pos := "law.go:149", after := #[{ on := 5, ground := Go.Ground.data }, { on := 3, ground := Go.Ground.guard }], guard := some (3, false) }) (v := ?_) rfl (by kernel_rfl) (by kernel_rfl) (by kernel_rfl) (fun _ _ _ h => h) (Or.inl ⟨by rfl, ?_⟩) (by assumption) ?_
                      rotate_left
                      · intro w hSw
                        (try dsimp only at hSw)
                        go_simp
                        try with_reducible rfl
                      (try simp only [Act.put, List.setIfInBounds_toArray, List.set_cons_zero, List.set_cons_succ])
                      refine wpAnyH_take (i := 7) (oi := { dst := some 285, op := Go.Op.pick (Go.Operand.tmp 281) (Go.Operand.const (Go.Value.bool true)) (Go.Operand.tmp 284), type := 4, pos := "law.go:149", after := #[{ on := 3, ground := Go.Ground.data }, { on := 6, ground := Go.Ground.data }], guard := none }) (v := ?_) rfl (by kernel_rfl) (by kernel_rfl) (by kernel_rfl) (fun _ _ _ h => h) (Or.inl ⟨by rfl, ?_⟩) (by assumption) ?_
                      rotate_left
                      · intro w hSw
                        (try dsimp only at hSw)
                        go_simp
                        try with_reducible rfl
                      (try simp only [Act.put, List.setIfInBounds_toArray, List.set_cons_zero, List.set_cons_succ])
                      refine wpAnyH_take (i := 8) (oi := { dst := some 286, op := Go.Op.move (Go.Operand.tmp 285), type := 4, pos := "law.go:149", after := #[{ on := 7, ground := Go.Ground.data }, { on := 3, ground := Go.Ground.chain }], guard := none }) (v := ?_) rfl (by kernel_rfl) (by kernel_rfl) (by kernel_rfl) (fun _ _ _ h => h) (Or.inl ⟨by rfl, ?_⟩) (by assumption) ?_
                      rotate_left
                      · intro w hSw
                        (try dsimp only at hSw)
                        go_simp
                        try with_reducible rfl
                      (try simp only [Act.put, List.setIfInBounds_toArray, List.set_cons_zero, List.set_cons_succ])
                      refine wpAnyH_take (i := 9) (oi := { dst := some 287, op := Go.Op.move (Go.Operand.tmp 10), type := 28, pos := "law.go:149", after := #[{ on := 8, ground := Go.Ground.guard }], guard := some (8, false) }) (v := undef) rfl (by kernel_rfl) (by kernel_rfl) (by kernel_rfl) (fun _ _ _ h => h) (Or.inr ⟨by rfl, rfl⟩) (by assumption) ?_
                      (try simp only [Act.put, List.setIfInBounds_toArray, List.set_cons_zero, List.set_cons_succ])
                      refine wpAnyH_take (i := 10) (oi := { dst := some 288, op := Go.Op.call { callee := Go.Callee.value (Go.Operand.func 22), args := #[Go.Operand.tmp 287], argTypes := #[28] }, type := 3, pos := "law.go:149", after := #[{ on := 9, ground := Go.Ground.data }, { on := 8, ground := Go.Ground.chain }, { on := 8, ground := Go.Ground.guard }], guard := some (8, false) }) (v := undef) rfl (by kernel_rfl) (by kernel_rfl) (by kernel_rfl) (fun _ _ _ h => h) (Or.inr ⟨by rfl, rfl⟩) (by assumption) ?_
                      (try simp only [Act.put, List.setIfInBounds_toArray, List.set_cons_zero, List.set_cons_succ])
                      refine wpAnyH_take (i := 11) (oi := { dst := some 289, op := Go.Op.move (Go.Operand.tmp 29), type := 33, pos := "law.go:149", after := #[{ on := 8, ground := Go.Ground.guard }], guard := some (8, false) }) (v := undef) rfl (by kernel_rfl) (by kernel_rfl) (by kernel_rfl) (fun _ _ _ h => h) (Or.inr ⟨by rfl, rfl⟩) (by assumption) ?_
                      (try simp only [Act.put, List.setIfInBounds_toArray, List.set_cons_zero, List.set_cons_succ])
                      refine wpAnyH_take (i := 12) (oi := { dst := some 290, op := Go.Op.nilCheck (Go.Operand.tmp 289), type := 0, pos := "law.go:149", after := #[{ on := 11, ground := Go.Ground.data }, { on := 8, ground := Go.Ground.guard }], guard := some (8, false) }) (v := undef) rfl (by kernel_rfl) (by kernel_rfl) (by kernel_rfl) (fun _ _ _ h => h) (Or.inr ⟨by rfl, rfl⟩) (by assumption) ?_
                      (try simp only [Act.put, List.setIfInBounds_toArray, List.set_cons_zero, List.set_cons_succ])
                      refine wpAnyH_take (i := 13) (oi := { dst := some 291, op := Go.Op.fieldAddr 35 (Go.Operand.tmp 290) 1, type := 0, pos := "law.go:149", after := #[{ on := 12, ground := Go.Ground.data }, { on := 8, ground := Go.Ground.guard }], guard := some (8, false) }) (v := undef) rfl (by kernel_rfl) (by kernel_rfl) (by kernel_rfl) (fun _ _ _ h => h) (Or.inr ⟨by rfl, rfl⟩) (by assumption) ?_
                      (try simp only [Act.put, List.setIfInBounds_toArray, List.set_cons_zero, List.set_cons_succ])
                      refine wpAnyH_take (i := 14) (oi := { dst := some 292, op := Go.Op.load 23 (Go.Operand.tmp 291), type := 23, pos := "law.go:149", after := #[{ on := 13, ground := Go.Ground.data }, { on := 8, ground := Go.Ground.guard }], guard := some (8, false) }) (v := undef) rfl (by kernel_rfl) (by kernel_rfl) (by kernel_rfl) (fun _ _ _ h => h) (Or.inr ⟨by rfl, rfl⟩) (by assumption) ?_
                      (try simp only [Act.put, List.setIfInBounds_toArray, List.set_cons_zero, List.set_cons_succ])
                      refine wpAnyH_take (i := 15) (oi := { dst := some 293, op := Go.Op.call { callee := Go.Callee.builtin Go.Builtin.len, args := #[Go.Operand.tmp 292], argTypes := #[23] }, type := 3, pos := "law.go:149", after := #[{ on := 14, ground := Go.Ground.data }, { on := 8, ground := Go.Ground.guard }], guard := some (8, false) }) (v := undef) rfl (by kernel_rfl) (by kernel_rfl) (by kernel_rfl) (fun _ _ _ h => h) (Or.inr ⟨by rfl, rfl⟩) (by assumption) ?_
                      (try simp only [Act.put, List.setIfInBounds_toArray, List.set_cons_zero, List.set_cons_succ])
                      refine wpAnyH_take (i := 16) (oi := { dst := some 294, op := Go.Op.binOp Go.BinOp.eql 3 (Go.Operand.tmp 288) (Go.Operand.tmp 293) 3, type := 4, pos := "law.go:149", after := #[{ on := 10, ground := Go.Ground.data }, { on := 15, ground := Go.Ground.data }, { on := 8, ground := Go.Ground.guard }], guard := some (8, false) }) (v := undef) rfl (by kernel_rfl) (by kernel_rfl) (by kernel_rfl) (fun _ _ _ h => h) (Or.inr ⟨by rfl, rfl⟩) (by assumption) ?_
                      (try simp only [Act.put, List.setIfInBounds_toArray, List.set_cons_zero, List.set_cons_succ])
                      refine wpAnyH_take (i := 17) (oi := { dst := some 295, op := Go.Op.move (Go.Operand.tmp 294), type := 4, pos := "law.go:149", after := #[{ on := 16, ground := Go.Ground.data }, { on := 10, ground := Go.Ground.chain }, { on := 8, ground := Go.Ground.guard }], guard := some (8, false) }) (v := undef) rfl (by kernel_rfl) (by kernel_rfl) (by kernel_rfl) (fun _ _ _ h => h) (Or.inr ⟨by rfl, rfl⟩) (by assumption) ?_
                      (try simp only [Act.put, List.setIfInBounds_toArray, List.set_cons_zero, List.set_cons_succ])
                      refine wpAnyH_take (i := 18) (oi := { dst := some 296, op := Go.Op.move (Go.Operand.tmp 10), type := 28, pos := "law.go:149", after := #[{ on := 17, ground := Go.Ground.guard }], guard := some (17, true) }) (v := undef) rfl (by kernel_rfl) (by kernel_rfl) (by kernel_rfl) (fun _ _ _ h => h) (Or.inr ⟨by rfl, rfl⟩) (by assumption) ?_
                      (try simp only [Act.put, List.setIfInBounds_toArray, List.set_cons_zero, List.set_cons_succ])
                      refine wpAnyH_take (i := 19) (oi := { dst := some 297, op := Go.Op.call { callee := Go.Callee.value (Go.Operand.func 24), args := #[Go.Operand.tmp 296], argTypes := #[28] }, type := 23, pos := "law.go:149", after := #[{ on := 18, ground := Go.Ground.data }, { on := 17, ground := Go.Ground.chain }, { on := 17, ground := Go.Ground.guard }], guard := some (17, true) }) (v := undef) rfl (by kernel_rfl) (by kernel_rfl) (by kernel_rfl) (fun _ _ _ h => h) (Or.inr ⟨by rfl, rfl⟩) (by assumption) ?_
                      (try simp only [Act.put, List.setIfInBounds_toArray, List.set_cons_zero, List.set_cons_succ])
                      refine wpAnyH_take (i := 20) (oi := { dst := some 298, op := Go.Op.move (Go.Operand.tmp 29), type := 33, pos := "law.go:149", after := #[{ on := 17, ground := Go.Ground.guard }], guard := some (17, true) }) (v := undef) rfl (by kernel_rfl) (by kernel_rfl) (by kernel_rfl) (fun _ _ _ h => h) (Or.inr ⟨by rfl, rfl⟩) (by assumption) ?_
                      (try simp only [Act.put, List.setIfInBounds_toArray, List.set_cons_zero, List.set_cons_succ])
                      refine wpAnyH_take (i := 21) (oi := { dst := some 299, op := Go.Op.nilCheck (Go.Operand.tmp 298), type := 0, pos := "law.go:149", after := #[{ on := 20, ground := Go.Ground.data }, { on := 17, ground := Go.Ground.guard }], guard := some (17, true) }) (v := undef) rfl (by kernel_rfl) (by kernel_rfl) (by kernel_rfl) (fun _ _ _ h => h) (Or.inr ⟨by rfl, rfl⟩) (by assumption) ?_
                      (try simp only [Act.put, List.setIfInBounds_toArray, List.set_cons_zero, List.set_cons_succ])
                      refine wpAnyH_take (i := 22) (oi := { dst := some 300, op := Go.Op.fieldAddr 35 (Go.Operand.tmp 299) 1, type := 0, pos := "law.go:149", after := #[{ on := 21, ground := Go.Ground.data }, { on := 17, ground := Go.Ground.guard }], guard := some (17, true) }) (v := undef) rfl (by kernel_rfl) (by kernel_rfl) (by kernel_rfl) (fun _ _ _ h => h) (Or.inr ⟨by rfl, rfl⟩) (by assumption) ?_
                      (try simp only [Act.put, List.setIfInBounds_toArray, List.set_cons_zero, List.set_cons_succ])
                      refine wpAnyH_take (i := 23) (oi := { dst := some 301, op := Go.Op.load 23 (Go.Operand.tmp 300), type := 23, pos := "law.go:149", after := #[{ on := 22, ground := Go.Ground.data }, { on := 17, ground := Go.Ground.guard }], guard := some (17, true) }) (v := undef) rfl (by kernel_rfl) (by kernel_rfl) (by kernel_rfl) (fun _ _ _ h => h) (Or.inr ⟨by rfl, rfl⟩) (by assumption) ?_
                      (try simp only [Act.put, List.setIfInBounds_toArray, List.set_cons_zero, List.set_cons_succ])
                      refine wpAnyH_take (i := 24) (oi := { dst := some 302, op := Go.Op.call { callee := Go.Callee.value (Go.Operand.func 23), args := #[Go.Operand.tmp 297, Go.Operand.tmp 301], argTypes := #[23, 23] }, type := 4, pos := "law.go:149", after := #[{ on := 19, ground := Go.Ground.data }, { on := 23, ground := Go.Ground.data }, { on := 19, ground := Go.Ground.chain }, { on := 17, ground := Go.Ground.guard }], guard := some (17, true) }) (v := undef) rfl (by kernel_rfl) (by kernel_rfl) (by kernel_rfl) (fun _ _ _ h => h) (Or.inr ⟨by rfl, rfl⟩) (by assumption) ?_
                      (try simp only [Act.put, List.setIfInBounds_toArray, List.set_cons_zero, List.set_cons_succ])
                      refine wpAnyH_take (i := 25) (oi := { dst := some 303, op := Go.Op.pick (Go.Operand.tmp 295) (Go.Operand.tmp 302) (Go.Operand.const (Go.Value.bool false)), type := 4, pos := "law.go:149", after := #[{ on := 17, ground := Go.Ground.data }, { on := 24, ground := Go.Ground.data }, { on := 8, ground := Go.Ground.guard }], guard := some (8, false) }) (v := undef) rfl (by kernel_rfl) (by kernel_rfl) (by kernel_rfl) (fun _ _ _ h => h) (Or.inr ⟨by rfl, rfl⟩) (by assumption) ?_
                      (try simp only [Act.put, List.setIfInBounds_toArray, List.set_cons_zero, List.set_cons_succ])
                      refine wpAnyH_take (i := 26) (oi := { dst := some 304, op := Go.Op.pick (Go.Operand.tmp 286) (Go.Operand.const (Go.Value.bool true)) (Go.Operand.tmp 303), type := 4, pos := "law.go:149", after := #[{ on := 8, ground := Go.Ground.data }, { on := 25, ground := Go.Ground.data }], guard := none }) (v := ?_) rfl (by kernel_rfl) (by kernel_rfl) (by kernel_rfl) (fun _ _ _ h => h) (Or.inl ⟨by rfl, ?_⟩) (by assumption) ?_
                      rotate_left
                      · intro w hSw
                        (try dsimp only at hSw)
                        go_simp
                        try with_reducible rfl
                      (try simp only [Act.put, List.setIfInBounds_toArray, List.set_cons_zero, List.set_cons_succ])
                      refine wpAnyH_take (i := 27) (oi := { dst := some 6, op := Go.Op.assign (Go.Operand.tmp 304), type := 4, pos := "law.go:149", after := #[{ on := 26, ground := Go.Ground.data }, { on := 24, ground := Go.Ground.chain }, { on := 0, ground := Go.Ground.phase }, { on := 1, ground := Go.Ground.phase }, { on := 2, ground := Go.Ground.phase }, { on := 3, ground := Go.Ground.phase }, { on := 4, ground := Go.Ground.phase }, { on := 5, ground := Go.Ground.phase }, { on := 6, ground := Go.Ground.phase }, { on := 7, ground := Go.Ground.phase }, { on := 8, ground := Go.Ground.phase }, { on := 9, ground := Go.Ground.phase }, { on := 10, ground := Go.Ground.phase }, { on := 11, ground := Go.Ground.phase }, { on := 12, ground := Go.Ground.phase }, { on := 13, ground := Go.Ground.phase }, { on := 14, ground := Go.Ground.phase }, { on := 15, ground := Go.Ground.phase }, { on := 16, ground := Go.Ground.phase }, { on := 17, ground := Go.Ground.phase }, { on := 18, ground := Go.Ground.phase }, { on := 19, ground := Go.Ground.phase }, { on := 20, ground := Go.Ground.phase }, { on := 21, ground := Go.Ground.phase }, { on := 22, ground := Go.Ground.phase }, { on := 23, ground := Go.Ground.phase }, { on := 24, ground := Go.Ground.phase }, { on := 25, ground := Go.Ground.phase }, { on := 26, ground := Go.Ground.phase }], guard := none }) (v := ?_) rfl (by kernel_rfl) (by kernel_rfl) (by kernel_rfl) (fun _ _ _ h => h) (Or.inl ⟨by rfl, ?_⟩) (by assumption) ?_
                      rotate_left
                      · intro w hSw
                        (try dsimp only at hSw)
                        go_simp
                        try with_reducible rfl
                      (try simp only [Act.put, List.setIfInBounds_toArray, List.set_cons_zero, List.set_cons_succ])
                      refine wpAnyH_done (by kernel_rfl) ?_ _
                      go_wp2
                      go_ret
                      exact ⟨rfl, below_drewN HBZ.out _⟩
                  · rw [hn0] at c0'
                    have d8 : decide ((i0 : Int) < 0) = false := by simp
                    have d9 : decide (0 ≤ (i0 : Int)) = true := by simp
                    clear HQ hn0 S P B3 HB HBA HU c1'
                    go_wp2_with fail
                    refine wp_region_held_drew (S := fun w' => w'.cell? ⟨nw, 0, none⟩ = some (.int .i64 (i0 : Int))) (by kernel_rfl) ?_ (fun hHeld => ?_)
                    · exact c0'
                    refine wpAnyH_take (i := 0) (oi := { dst := some 278, op := Go.Op.indexAddr 51 (Go.Operand.tmp 16) (Go.Operand.const (Go.Value.int Go.IntKind.i64 0)), type := 0, pos := "law.go:149", after := #[], guard := none }) (v := ?_) rfl (by kernel_rfl) (by kernel_rfl) (by kernel_rfl) (fun _ _ _ h => h) (Or.inl ⟨by rfl, ?_⟩) (by assumption) ?_
                    rotate_left
                    · intro w hSw
                      (try dsimp only at hSw)
                      go_simp
                      try with_reducible rfl
                    (try simp only [Act.put, List.setIfInBounds_toArray, List.set_cons_zero, List.set_cons_succ])
                    refine wpAnyH_take (i := 1) (oi := { dst := some 279, op := Go.Op.load 3 (Go.Operand.tmp 278), type := 3, pos := "law.go:149", after := #[{ on := 0, ground := Go.Ground.data }], guard := none }) (v := ?_) rfl (by kernel_rfl) (by kernel_rfl) (by kernel_rfl) (fun _ _ _ h => h) (Or.inl ⟨by rfl, ?_⟩) (by assumption) ?_
                    rotate_left
                    · intro w hSw
                      (try dsimp only at hSw)
                      go_simp
                      try with_reducible rfl
                    (try simp only [Act.put, List.setIfInBounds_toArray, List.set_cons_zero, List.set_cons_succ])
                    refine wpAnyH_take (i := 2) (oi := { dst := some 280, op := Go.Op.binOp Go.BinOp.geq 3 (Go.Operand.tmp 279) (Go.Operand.const (Go.Value.int Go.IntKind.i64 0)) 3, type := 4, pos := "law.go:149", after := #[{ on := 1, ground := Go.Ground.data }], guard := none }) (v := ?_) rfl (by kernel_rfl) (by kernel_rfl) (by kernel_rfl) (fun _ _ _ h => h) (Or.inl ⟨by rfl, ?_⟩) (by assumption) ?_
                    rotate_left
                    · intro w hSw
                      (try dsimp only at hSw)
                      go_simp
                      try with_reducible rfl
                    (try simp only [Act.put, List.setIfInBounds_toArray, List.set_cons_zero, List.set_cons_succ])
                    refine wpAnyH_take (i := 3) (oi := { dst := some 281, op := Go.Op.move (Go.Operand.tmp 280), type := 4, pos := "law.go:149", after := #[{ on := 2, ground := Go.Ground.data }], guard := none }) (v := ?_) rfl (by kernel_rfl) (by kernel_rfl) (by kernel_rfl) (fun _ _ _ h => h) (Or.inl ⟨by rfl, ?_⟩) (by assumption) ?_
                    rotate_left
                    · intro w hSw
                      (try dsimp only at hSw)
                      go_simp
                      try with_reducible rfl
                    (try simp only [Act.put, List.setIfInBounds_toArray, List.set_cons_zero, List.set_cons_succ])
                    refine wpAnyH_take (i := 4) (oi := { dst := some 282, op := Go.Op.indexAddr 51 (Go.Operand.tmp 16) (Go.Operand.const (Go.Value.int Go.IntKind.i64 1)), type := 0, pos := "law.go:149", after := #[{ on := 3, ground := Go.Ground.guard }], guard := some (3, false) }) (v := undef) rfl (by kernel_rfl) (by kernel_rfl) (by kernel_rfl) (fun _ _ _ h => h) (Or.inr ⟨by rfl, rfl⟩) (by assumption) ?_
                    (try simp only [Act.put, List.setIfInBounds_toArray, List.set_cons_zero, List.set_cons_succ])
                    refine wpAnyH_take (i := 5) (oi := { dst := some 283, op := Go.Op.load 3 (Go.Operand.tmp 282), type := 3, pos := "law.go:149", after := #[{ on := 4, ground := Go.Ground.data }, { on := 3, ground := Go.Ground.guard }], guard := some (3, false) }) (v := undef) rfl (by kernel_rfl) (by kernel_rfl) (by kernel_rfl) (fun _ _ _ h => h) (Or.inr ⟨by rfl, rfl⟩) (by assumption) ?_
                    (try simp only [Act.put, List.setIfInBounds_toArray, List.set_cons_zero, List.set_cons_succ])
                    refine wpAnyH_take (i := 6) (oi := { dst := some 284, op := Go.Op.binOp Go.BinOp.geq 3 (Go.Operand.tmp 283) (Go.Operand.const (Go.Value.int Go.IntKind.i64 0)) 3, type := 4, pos := "law.go:149", after := #[{ on := 5, ground := Go.Ground.data }, { on := 3, ground := Go.Ground.guard }], guard := some (3, false) }) (v := undef) rfl (by kernel_rfl) (by kernel_rfl) (by kernel_rfl) (fun _ _ _ h => h) (Or.inr ⟨by rfl, rfl⟩) (by assumption) ?_
                    (try simp only [Act.put, List.setIfInBounds_toArray, List.set_cons_zero, List.set_cons_succ])
                    refine wpAnyH_take (i := 7) (oi := { dst := some 285, op := Go.Op.pick (Go.Operand.tmp 281) (Go.Operand.const (Go.Value.bool true)) (Go.Operand.tmp 284), type := 4, pos := "law.go:149", after := #[{ on := 3, ground := Go.Ground.data }, { on := 6, ground := Go.Ground.data }], guard := none }) (v := ?_) rfl (by kernel_rfl) (by kernel_rfl) (by kernel_rfl) (fun _ _ _ h => h) (Or.inl ⟨by rfl, ?_⟩) (by assumption) ?_
                    rotate_left
                    · intro w hSw
                      (try dsimp only at hSw)
                      go_simp
                      try with_reducible rfl
                    (try simp only [Act.put, List.setIfInBounds_toArray, List.set_cons_zero, List.set_cons_succ])
                    refine wpAnyH_take (i := 8) (oi := { dst := some 286, op := Go.Op.move (Go.Operand.tmp 285), type := 4, pos := "law.go:149", after := #[{ on := 7, ground := Go.Ground.data }, { on := 3, ground := Go.Ground.chain }], guard := none }) (v := ?_) rfl (by kernel_rfl) (by kernel_rfl) (by kernel_rfl) (fun _ _ _ h => h) (Or.inl ⟨by rfl, ?_⟩) (by assumption) ?_
                    rotate_left
                    · intro w hSw
                      (try dsimp only at hSw)
                      go_simp
                      try with_reducible rfl
                    (try simp only [Act.put, List.setIfInBounds_toArray, List.set_cons_zero, List.set_cons_succ])
                    refine wpAnyH_take (i := 9) (oi := { dst := some 287, op := Go.Op.move (Go.Operand.tmp 10), type := 28, pos := "law.go:149", after := #[{ on := 8, ground := Go.Ground.guard }], guard := some (8, false) }) (v := undef) rfl (by kernel_rfl) (by kernel_rfl) (by kernel_rfl) (fun _ _ _ h => h) (Or.inr ⟨by rfl, rfl⟩) (by assumption) ?_
                    (try simp only [Act.put, List.setIfInBounds_toArray, List.set_cons_zero, List.set_cons_succ])
                    refine wpAnyH_take (i := 10) (oi := { dst := some 288, op := Go.Op.call { callee := Go.Callee.value (Go.Operand.func 22), args := #[Go.Operand.tmp 287], argTypes := #[28] }, type := 3, pos := "law.go:149", after := #[{ on := 9, ground := Go.Ground.data }, { on := 8, ground := Go.Ground.chain }, { on := 8, ground := Go.Ground.guard }], guard := some (8, false) }) (v := undef) rfl (by kernel_rfl) (by kernel_rfl) (by kernel_rfl) (fun _ _ _ h => h) (Or.inr ⟨by rfl, rfl⟩) (by assumption) ?_
                    (try simp only [Act.put, List.setIfInBounds_toArray, List.set_cons_zero, List.set_cons_succ])
                    refine wpAnyH_take (i := 11) (oi := { dst := some 289, op := Go.Op.move (Go.Operand.tmp 29), type := 33, pos := "law.go:149", after := #[{ on := 8, ground := Go.Ground.guard }], guard := some (8, false) }) (v := undef) rfl (by kernel_rfl) (by kernel_rfl) (by kernel_rfl) (fun _ _ _ h => h) (Or.inr ⟨by rfl, rfl⟩) (by assumption) ?_
                    (try simp only [Act.put, List.setIfInBounds_toArray, List.set_cons_zero, List.set_cons_succ])
                    refine wpAnyH_take (i := 12) (oi := { dst := some 290, op := Go.Op.nilCheck (Go.Operand.tmp 289), type := 0, pos := "law.go:149", after := #[{ on := 11, ground := Go.Ground.data }, { on := 8, ground := Go.Ground.guard }], guard := some (8, false) }) (v := undef) rfl (by kernel_rfl) (by kernel_rfl) (by kernel_rfl) (fun _ _ _ h => h) (Or.inr ⟨by rfl, rfl⟩) (by assumption) ?_
                    (try simp only [Act.put, List.setIfInBounds_toArray, List.set_cons_zero, List.set_cons_succ])
                    refine wpAnyH_take (i := 13) (oi := { dst := some 291, op := Go.Op.fieldAddr 35 (Go.Operand.tmp 290) 1, type := 0, pos := "law.go:149", after := #[{ on := 12, ground := Go.Ground.data }, { on := 8, ground := Go.Ground.guard }], guard := some (8, false) }) (v := undef) rfl (by kernel_rfl) (by kernel_rfl) (by kernel_rfl) (fun _ _ _ h => h) (Or.inr ⟨by rfl, rfl⟩) (by assumption) ?_
                    (try simp only [Act.put, List.setIfInBounds_toArray, List.set_cons_zero, List.set_cons_succ])
                    refine wpAnyH_take (i := 14) (oi := { dst := some 292, op := Go.Op.load 23 (Go.Operand.tmp 291), type := 23, pos := "law.go:149", after := #[{ on := 13, ground := Go.Ground.data }, { on := 8, ground := Go.Ground.guard }], guard := some (8, false) }) (v := undef) rfl (by kernel_rfl) (by kernel_rfl) (by kernel_rfl) (fun _ _ _ h => h) (Or.inr ⟨by rfl, rfl⟩) (by assumption) ?_
                    (try simp only [Act.put, List.setIfInBounds_toArray, List.set_cons_zero, List.set_cons_succ])
                    refine wpAnyH_take (i := 15) (oi := { dst := some 293, op := Go.Op.call { callee := Go.Callee.builtin Go.Builtin.len, args := #[Go.Operand.tmp 292], argTypes := #[23] }, type := 3, pos := "law.go:149", after := #[{ on := 14, ground := Go.Ground.data }, { on := 8, ground := Go.Ground.guard }], guard := some (8, false) }) (v := undef) rfl (by kernel_rfl) (by kernel_rfl) (by kernel_rfl) (fun _ _ _ h => h) (Or.inr ⟨by rfl, rfl⟩) (by assumption) ?_
                    (try simp only [Act.put, List.setIfInBounds_toArray, List.set_cons_zero, List.set_cons_succ])
                    refine wpAnyH_take (i := 16) (oi := { dst := some 294, op := Go.Op.binOp Go.BinOp.eql 3 (Go.Operand.tmp 288) (Go.Operand.tmp 293) 3, type := 4, pos := "law.go:149", after := #[{ on := 10, ground := Go.Ground.data }, { on := 15, ground := Go.Ground.data }, { on := 8, ground := Go.Ground.guard }], guard := some (8, false) }) (v := undef) rfl (by kernel_rfl) (by kernel_rfl) (by kernel_rfl) (fun _ _ _ h => h) (Or.inr ⟨by rfl, rfl⟩) (by assumption) ?_
                    (try simp only [Act.put, List.setIfInBounds_toArray, List.set_cons_zero, List.set_cons_succ])
                    refine wpAnyH_take (i := 17) (oi := { dst := some 295, op := Go.Op.move (Go.Operand.tmp 294), type := 4, pos := "law.go:149", after := #[{ on := 16, ground := Go.Ground.data }, { on := 10, ground := Go.Ground.chain }, { on := 8, ground := Go.Ground.guard }], guard := some (8, false) }) (v := undef) rfl (by kernel_rfl) (by kernel_rfl) (by kernel_rfl) (fun _ _ _ h => h) (Or.inr ⟨by rfl, rfl⟩) (by assumption) ?_
                    (try simp only [Act.put, List.setIfInBounds_toArray, List.set_cons_zero, List.set_cons_succ])
                    refine wpAnyH_take (i := 18) (oi := { dst := some 296, op := Go.Op.move (Go.Operand.tmp 10), type := 28, pos := "law.go:149", after := #[{ on := 17, ground := Go.Ground.guard }], guard := some (17, true) }) (v := undef) rfl (by kernel_rfl) (by kernel_rfl) (by kernel_rfl) (fun _ _ _ h => h) (Or.inr ⟨by rfl, rfl⟩) (by assumption) ?_
                    (try simp only [Act.put, List.setIfInBounds_toArray, List.set_cons_zero, List.set_cons_succ])
                    refine wpAnyH_take (i := 19) (oi := { dst := some 297, op := Go.Op.call { callee := Go.Callee.value (Go.Operand.func 24), args := #[Go.Operand.tmp 296], argTypes := #[28] }, type := 23, pos := "law.go:149", after := #[{ on := 18, ground := Go.Ground.data }, { on := 17, ground := Go.Ground.chain }, { on := 17, ground := Go.Ground.guard }], guard := some (17, true) }) (v := undef) rfl (by kernel_rfl) (by kernel_rfl) (by kernel_rfl) (fun _ _ _ h => h) (Or.inr ⟨by rfl, rfl⟩) (by assumption) ?_
                    (try simp only [Act.put, List.setIfInBounds_toArray, List.set_cons_zero, List.set_cons_succ])
                    refine wpAnyH_take (i := 20) (oi := { dst := some 298, op := Go.Op.move (Go.Operand.tmp 29), type := 33, pos := "law.go:149", after := #[{ on := 17, ground := Go.Ground.guard }], guard := some (17, true) }) (v := undef) rfl (by kernel_rfl) (by kernel_rfl) (by kernel_rfl) (fun _ _ _ h => h) (Or.inr ⟨by rfl, rfl⟩) (by assumption) ?_
                    (try simp only [Act.put, List.setIfInBounds_toArray, List.set_cons_zero, List.set_cons_succ])
                    refine wpAnyH_take (i := 21) (oi := { dst := some 299, op := Go.Op.nilCheck (Go.Operand.tmp 298), type := 0, pos := "law.go:149", after := #[{ on := 20, ground := Go.Ground.data }, { on := 17, ground := Go.Ground.guard }], guard := some (17, true) }) (v := undef) rfl (by kernel_rfl) (by kernel_rfl) (by kernel_rfl) (fun _ _ _ h => h) (Or.inr ⟨by rfl, rfl⟩) (by assumption) ?_
                    (try simp only [Act.put, List.setIfInBounds_toArray, List.set_cons_zero, List.set_cons_succ])
                    refine wpAnyH_take (i := 22) (oi := { dst := some 300, op := Go.Op.fieldAddr 35 (Go.Operand.tmp 299) 1, type := 0, pos := "law.go:149", after := #[{ on := 21, ground := Go.Ground.data }, { on := 17, ground := Go.Ground.guard }], guard := some (17, true) }) (v := undef) rfl (by kernel_rfl) (by kernel_rfl) (by kernel_rfl) (fun _ _ _ h => h) (Or.inr ⟨by rfl, rfl⟩) (by assumption) ?_
                    (try simp only [Act.put, List.setIfInBounds_toArray, List.set_cons_zero, List.set_cons_succ])
                    refine wpAnyH_take (i := 23) (oi := { dst := some 301, op := Go.Op.load 23 (Go.Operand.tmp 300), type := 23, pos := "law.go:149", after := #[{ on := 22, ground := Go.Ground.data }, { on := 17, ground := Go.Ground.guard }], guard := some (17, true) }) (v := undef) rfl (by kernel_rfl) (by kernel_rfl) (by kernel_rfl) (fun _ _ _ h => h) (Or.inr ⟨by rfl, rfl⟩) (by assumption) ?_
                    (try simp only [Act.put, List.setIfInBounds_toArray, List.set_cons_zero, List.set_cons_succ])
                    refine wpAnyH_take (i := 24) (oi := { dst := some 302, op := Go.Op.call { callee := Go.Callee.value (Go.Operand.func 23), args := #[Go.Operand.tmp 297, Go.Operand.tmp 301], argTypes := #[23, 23] }, type := 4, pos := "law.go:149", after := #[{ on := 19, ground := Go.Ground.data }, { on := 23, ground := Go.Ground.data }, { on := 19, ground := Go.Ground.chain }, { on := 17, ground := Go.Ground.guard }], guard := some (17, true) }) (v := undef) rfl (by kernel_rfl) (by kernel_rfl) (by kernel_rfl) (fun _ _ _ h => h) (Or.inr ⟨by rfl, rfl⟩) (by assumption) ?_
                    (try simp only [Act.put, List.setIfInBounds_toArray, List.set_cons_zero, List.set_cons_succ])
                    refine wpAnyH_take (i := 25) (oi := { dst := some 303, op := Go.Op.pick (Go.Operand.tmp 295) (Go.Operand.tmp 302) (Go.Operand.const (Go.Value.bool false)), type := 4, pos := "law.go:149", after := #[{ on := 17, ground := Go.Ground.data }, { on := 24, ground := Go.Ground.data }, { on := 8, ground := Go.Ground.guard }], guard := some (8, false) }) (v := undef) rfl (by kernel_rfl) (by kernel_rfl) (by kernel_rfl) (fun _ _ _ h => h) (Or.inr ⟨by rfl, rfl⟩) (by assumption) ?_
                    (try simp only [Act.put, List.setIfInBounds_toArray, List.set_cons_zero, List.set_cons_succ])
                    refine wpAnyH_take (i := 26) (oi := { dst := some 304, op := Go.Op.pick (Go.Operand.tmp 286) (Go.Operand.const (Go.Value.bool true)) (Go.Operand.tmp 303), type := 4, pos := "law.go:149", after := #[{ on := 8, ground := Go.Ground.data }, { on := 25, ground := Go.Ground.data }], guard := none }) (v := ?_) rfl (by kernel_rfl) (by kernel_rfl) (by kernel_rfl) (fun _ _ _ h => h) (Or.inl ⟨by rfl, ?_⟩) (by assumption) ?_
                    rotate_left
                    · intro w hSw
                      (try dsimp only at hSw)
                      go_simp
                      try with_reducible rfl
                    (try simp only [Act.put, List.setIfInBounds_toArray, List.set_cons_zero, List.set_cons_succ])
                    refine wpAnyH_take (i := 27) (oi := { dst := some 6, op := Go.Op.assign (Go.Operand.tmp 304), type := 4, pos := "law.go:149", after := #[{ on := 26, ground := Go.Ground.data }, { on := 24, ground := Go.Ground.chain }, { on := 0, ground := Go.Ground.phase }, { on := 1, ground := Go.Ground.phase }, { on := 2, ground := Go.Ground.phase }, { on := 3, ground := Go.Ground.phase }, { on := 4, ground := Go.Ground.phase }, { on := 5, ground := Go.Ground.phase }, { on := 6, ground := Go.Ground.phase }, { on := 7, ground := Go.Ground.phase }, { on := 8, ground := Go.Ground.phase }, { on := 9, ground := Go.Ground.phase }, { on := 10, ground := Go.Ground.phase }, { on := 11, ground := Go.Ground.phase }, { on := 12, ground := Go.Ground.phase }, { on := 13, ground := Go.Ground.phase }, { on := 14, ground := Go.Ground.phase }, { on := 15, ground := Go.Ground.phase }, { on := 16, ground := Go.Ground.phase }, { on := 17, ground := Go.Ground.phase }, { on := 18, ground := Go.Ground.phase }, { on := 19, ground := Go.Ground.phase }, { on := 20, ground := Go.Ground.phase }, { on := 21, ground := Go.Ground.phase }, { on := 22, ground := Go.Ground.phase }, { on := 23, ground := Go.Ground.phase }, { on := 24, ground := Go.Ground.phase }, { on := 25, ground := Go.Ground.phase }, { on := 26, ground := Go.Ground.phase }], guard := none }) (v := ?_) rfl (by kernel_rfl) (by kernel_rfl) (by kernel_rfl) (fun _ _ _ h => h) (Or.inl ⟨by rfl, ?_⟩) (by assumption) ?_
                    rotate_left
                    · intro w hSw
                      (try dsimp only at hSw)
                      go_simp
                      try with_reducible rfl
                    (try simp only [Act.put, List.setIfInBounds_toArray, List.set_cons_zero, List.set_cons_succ])
                    refine wpAnyH_done (by kernel_rfl) ?_ _
                    go_wp2
                    go_ret
                    exact ⟨rfl, below_drewN HBZ.out _⟩
    · have d1 : decide (j < n2) = false := by simp; omega
      as_aux_lemma =>
        obtain ⟨ab, ac, pt, fr, g, p, t, q, nwf, stf, R, hS, hP, hT⟩ := HR.out
        have S := Lib.hid hS
        have P := Lib.hid hP
        clear hS hP hT HR HC HQW HN1 HN2 hin
        obtain ⟨wA, rfl⟩ : ∃ x, x = wr := ⟨_, rfl⟩
        go_wp2
        go_loopw [25, 26] (fun mk i wr => ∃ (k : Nat) (Am : Option Addr) (cm : Nat), i = .int .i64 k ∧ mk = .slice Am k cm ∧ k ≤ N ∧ Hid (wr.ownsRow wA.heap.size 3 1 (.slice Am k cm) k (kvf (fun i => (ac i).mark) k)) ∧ Hid (Below wA.heap.size wA wr)) (fun _ i _ => N - (intOf i).toNat)
        case atStart => exact ⟨0, none, 0, rfl, rfl, by omega, World.ownsRow_nil _ _ _ _, Below.refl _ _⟩
        case round =>
          obtain ⟨k, Am, cm, rfl, rfl, hk, HO, HB⟩ := hrel
          by_cases hkN : k < N
          · have d6 : decide (k < N) = true := by simp; omega
            obtain ⟨ga, cga, ea, hc1, hc2, _, hga, hcell⟩ := own_cells S.out.oa (by omega)
            cases ea
            unfold maxLen at hc2
            have k1 : wr.cell? ⟨ga, k, none⟩ = some (.pointer (some ⟨ab k, 0, none⟩)) := (HB.out.cell (p := ⟨ga, k, none⟩) hga).trans ((hcell k hkN).trans (ptv_at _ hkN))
            have HMK := Lib.hid (act_Mark ((S.out.act k hkN).below HB.out))
            have hsz := HB.out.size
            clear hcell hga
            go_wp2_with (first
              | (go_at_call 26; (with_reducible refine Calls.mono HMK.out ?_); rintro e wq ⟨rfl, rfl⟩)
              | (at_builtin; refine wpList_apv _ rfl stInts _ _ rfl wA.heap.size _ k _ rfl (HO.out.alloc _) _ _ 1 [.int .i64 (ac k).mark] rfl (Sl.lit_at (by rfl) rfl (by decide)) (by simp [Value.oneCell']) (by omega) (by go_size) ?_; intro A4 c4 w9 hown9 hgr9 hat9 hbel9; clear hgr9 hat9))
            have HO9 : Hid (w9.ownsRow wA.heap.size 3 1 (.slice A4 (k + 1) c4) (k + 1) (kvf (fun i => (ac i).mark) (k + 1))) := by rw [kvf_snoc]; exact hown9
            have HB9 := Lib.hid ((HB.out.alloc HB.out.size _).trans hbel9)
            clear hown9 hbel9 HO HB HMK k1
            go_roundw
            case rel => exact ⟨k + 1, A4, c4, by go_num, rfl, by omega, HO9.out, HB9.out⟩
            case measure => simp [intOf]; omega
          · have d6 : decide (k < N) = false := by simp; omega
            obtain rfl : N = k := by omega
            have HOR := Lib.hid (P.out.order (by omega) HO.out)
            go_wp2_with fail
            refine (HOR.out).mono ?_
            rintro e w3 ⟨u, rfl, ho3, hb3⟩
            obtain ⟨r, hr⟩ : ∃ r, r = R.length := ⟨_, rfl⟩
            have HRL := Lib.hid hr
            rw [← hr] at ho3
            obtain ⟨Au, cu, hu, hcu, hcx⟩ := (Sl.of_own ho3).form
            subst hu
            unfold maxLen at hcx
            have HU : Hid (w3.ownsRow wr.heap.size 3 1 (.slice Au r cu) r (kv .i64 (R.map fun (i : Nat) => (i : Int)))) := ho3
            have HSW : Hid (wA.heap.size ≤ wr.heap.size) := HB.out.size
            have B3 := Lib.hid (HB.out.trans (hb3.mono HB.out.size))
            have h8 := H8.out
            have HQ0 : Hid (QueAt (w3.alloc (.cells #[.int .i64 (n : Nat), .slice none 0 0] 35)) w3.heap.size n (.slice none 0 0) []) :=
              ⟨World.rowIs_alloc w3 #[.int .i64 (n : Nat), .slice none 0 0] 35 (queF n (.slice none 0 0)) (fun i hi => by
                match i, hi with
                | 0, _ => rfl
                | 1, _ => rfl), World.ownsRow_nil _ _ _ _⟩
            obtain ⟨w4, hw4⟩ : ∃ w4, w4 = w3.alloc (.cells #[.int .i64 (n : Nat), .slice none 0 0] 35) := ⟨_, rfl⟩
            obtain ⟨qb, hqb⟩ : ∃ qb, qb = w3.heap.size := ⟨_, rfl⟩
            have HB4 : Hid (Below qb w3 w4) := by rw [hw4, hqb]; exact (Below.refl _ _).alloc (Nat.le_refl _) _
            have HQB := Lib.hid hqb
            clear hr ho3 hb3 HO HB HOR
            go_wp2
            rw [← hw4, ← hqb] at HQ0 ⊢
            clear hw4 hqb
            go_loopw [30] (fun i wr => ∃ (k : Nat) (v : Value) (qk : List Int), i = .int .i64 k ∧ k ≤ r ∧ qk.length ≤ n ∧ Hid (QueAt wr qb n v qk) ∧ Hid (Played n (fateR l1 ac pt) (R.drop k) qk q) ∧ Hid (Below qb w3 wr)) (fun i _ => r - (intOf i).toNat)
            case atStart => exact ⟨0, _, [], rfl, by omega, by simp, HQ0.out, P.out.pl, HB4.out⟩
            case round =>
              obtain ⟨k, v, qk, rfl, hk, hqk, HQ, HPL, HB⟩ := hrel
              clear HQ0 HB4
              by_cases hkr : k < r
              · have d7 : decide (k < r) = true := by simp; omega
                have hkr' : k < R.length := by rw [← HRL.out]; exact hkr
                obtain ⟨i, hRi, hiN, hst0, hnx⟩ := P.out.next HPL.out hkr'
                obtain ⟨ga, cga, ea, hc1, hc2, _, hga, hcell⟩ := own_cells S.out.oa (by omega)
                cases ea
                obtain ⟨gp, cgp, ep, hc3, hc4, _, hgp, hcellp⟩ := own_cells S.out.op (by omega)
                cases ep
                obtain ⟨gu, cgu, eu, hc5, hc6, _, hgu, hcellu, _⟩ := own_at HU.out (by rw [HRL.out]) (by omega)
                cases eu
                unfold maxLen at hc2 hc4 hc6
                have HBA : Hid (∀ w', Below qb w3 w' → Below wA.heap.size wA w') := fun w' h => B3.out.trans (h.mono (by have := B3.out.size; have := HQB.out; omega))
                have k1 : wr.cell? ⟨gu, k, none⟩ = some (.int .i64 (i : Int)) := (HB.out.cell (p := ⟨gu, k, none⟩) (by rw [HQB.out]; exact hgu)).trans (hcellu k i hRi)
                have k2 : wr.cell? ⟨ga, i, none⟩ = some (.pointer (some ⟨ab i, 0, none⟩)) := ((HBA.out _ HB.out).cell (p := ⟨ga, i, none⟩) hga).trans ((hcell i hiN).trans (ptv_at _ hiN))
                have k3 : wr.cell? ⟨gp, i, none⟩ = some (.int .i64 (pt i)) := ((HBA.out _ HB.out).cell (p := ⟨gp, i, none⟩) hgp).trans ((hcellp i hiN).trans (kvf_at _ hiN))
                have HAC : Hid (∀ w', Below qb w3 w' → ActAt w' rb (ab i) (ac i)) := fun w' h => (S.out.act i hiN).below (HBA.out _ h)
                have HQL := Lib.hid (fun kk => (HQ.out.own.lt kk))
                clear hcell hcellp hcellu hRi hkr'
                have HST : Hid (decide ((ac i).stage = 0) = true) := decide_eq_true hst0
                have HTQ : Hid (∀ w', Tch (fun kk => kk = qb ∨ v.ownBlock = some kk) wr w' → Below qb w3 w') := fun w' h => h.below HB.out (fun kk hk => (by
                  rcases hk with e | e
                  · omega
                  · have := (HQL.out kk e).1
                    omega)) (by have := HB.out.size; have := HQ.out.row.lt; omega)
                clear hst0
                rcases hnx with ⟨x, hpx, hxl, hok, hnum, hpl⟩ | ⟨hpt, hok, hnum, hpl⟩
                · have HPL2 := Lib.hid hpl
                  rw [hpx] at k3
                  obtain ⟨bb1, off1, hA1, hbb1, hcc1⟩ := HL1.out x (by have := HN1L.out; omega)
                  subst hA1
                  have k4 := ((HBW0.out.trans (S.out.bel.mono HBW0.out.size)).trans ((HBA.out _ HB.out).mono (by have := HBW0.out.size; have := S.out.bel.size; omega))).cell (p := ⟨bb1, off1 + x, none⟩) hbb1 |>.trans hcc1
                  have hx1 : x < n1 := by have := HN1L.out; omega
                  clear hcc1 hpl hpx hxl
                  generalize l1.getD x 0 = y at *
                  have HPU := que_Push HQ.out (by omega) y
                  have d8 : ¬ ((x : Int) < 0) := by omega
                  by_cases hlt : qk.length < n
                  · have hd : decide (qk.length < n) = true := decide_eq_true hlt
                    rw [hd] at HPU hok
                    rw [if_pos hlt] at HPU HPL2
                    have HPU := Lib.hid HPU
                    have hnum := hnum hok
                    have HOK : Hid (∀ w', Below qb w3 w' → Calls Try.prog 18 #[.pointer (some ⟨ab i, 0, none⟩)] w' fun e w2 => e = .returned (.bool true) ∧ w' = w2) := fun w' h => by have := act_Ok (HAC.out w' h); rw [hok] at this; exact this
                    have HVA : Hid (∀ w', Below qb w3 w' → Calls Try.prog 19 #[.pointer (some ⟨ab i, 0, none⟩)] w' fun e w2 => e = .returned (.int .u64 y) ∧ w' = w2) := fun w' h => by have := act_Value (HAC.out w' h); rw [if_pos hok, hnum] at this; exact this
                    have hqk3 : (qk ++ [y]).length ≤ n := by rw [List.length_append]; exact hlt
                    clear hd hok hnum hlt
                    go_wp2_with fail
                    refine (HPU.out).mono ?_
                    rintro e w5 ⟨rfl, v', hq', ht', _⟩
                    have hb5 := HTQ.out _ ht'
                    have HQ5 := Lib.hid hq'
                    have HB5 := Lib.hid hb5
                    have HOV := Lib.hid (over_at (HAC.out _ hb5) HST.out)
                    have HOK5 := Lib.hid (HOK.out _ hb5)
                    have HVA5 := Lib.hid (HVA.out _ hb5)
                    clear hq' ht' hb5 HPU HQ HPL HB HQL HTQ HOK HVA
                    go_wp2_with (first
                      | (go_at_call 25; (with_reducible refine Calls.mono HOV.out ?_); rintro e wq ⟨rfl, rfl⟩)
                      | (go_at_call 18; (with_reducible refine Calls.mono HOK5.out ?_); rintro e wq ⟨rfl, rfl⟩)
                      | (go_at_call 19; (with_reducible refine Calls.mono HVA5.out ?_); rintro e wq ⟨rfl, rfl⟩))
                    go_roundw
                    case rel => exact ⟨k + 1, v', qk ++ [y], by go_num, by omega, hqk3, HQ5.out, HPL2.out, HB5.out⟩
                    case measure => simp [intOf]; omega
                  · have hd : decide (qk.length < n) = false := decide_eq_false hlt
                    rw [hd] at HPU hok
                    rw [if_neg hlt] at HPU HPL2
                    have HPU := Lib.hid HPU
                    have HOK : Hid (∀ w', Below qb w3 w' → Calls Try.prog 18 #[.pointer (some ⟨ab i, 0, none⟩)] w' fun e w2 => e = .returned (.bool false) ∧ w' = w2) := fun w' h => by have := act_Ok (HAC.out w' h); rw [hok] at this; exact this
                    clear hd hok hnum hlt
                    go_wp2_with fail
                    refine (HPU.out).mono ?_
                    rintro e w5 ⟨rfl, v', hq', ht', _⟩
                    have hb5 := HTQ.out _ ht'
                    have HQ5 := Lib.hid hq'
                    have HB5 := Lib.hid hb5
                    have HOV := Lib.hid (over_at (HAC.out _ hb5) HST.out)
                    have HOK5 := Lib.hid (HOK.out _ hb5)
                    clear hq' ht' hb5 HPU HQ HPL HB HQL HTQ HOK
                    go_wp2_with (first
                      | (go_at_call 25; (with_reducible refine Calls.mono HOV.out ?_); rintro e wq ⟨rfl, rfl⟩)
                      | (go_at_call 18; (with_reducible refine Calls.mono HOK5.out ?_); rintro e wq ⟨rfl, rfl⟩))
                    go_roundw
                    case rel => exact ⟨k + 1, v', qk, by go_num, by omega, hqk, HQ5.out, HPL2.out, HB5.out⟩
                    case measure => simp [intOf]; omega
                · have HPL2 := Lib.hid hpl
                  rw [hpt] at k3
                  have HPU := que_PopU HQ.out (by omega)
                  obtain ⟨z, hz⟩ : ∃ z, z = !qk.isEmpty := ⟨_, rfl⟩
                  obtain ⟨V, hV⟩ : ∃ V, V = qk.headD 0 := ⟨_, rfl⟩
                  rw [← hz] at HPU hok
                  rw [← hV] at HPU hnum
                  have HPU := Lib.hid HPU
                  have HOK : Hid (∀ w', Below qb w3 w' → Calls Try.prog 18 #[.pointer (some ⟨ab i, 0, none⟩)] w' fun e w2 => e = .returned (.bool z) ∧ w' = w2) := fun w' h => by have := act_Ok (HAC.out w' h); rw [hok] at this; exact this
                  have HVA : Hid (∀ w', Below qb w3 w' → Calls Try.prog 19 #[.pointer (some ⟨ab i, 0, none⟩)] w' fun e w2 => e = .returned (.int .u64 V) ∧ w' = w2) := fun w' h => by have := act_Value (HAC.out w' h); rw [hnum] at this; exact this
                  have hzz : (z != z) = false := by simp
                  have hVV : (V != V) = false := by simp
                  have hqk2 : qk.tail.length ≤ n := by rw [List.length_tail]; omega
                  clear hz hV hok hnum hpl hpt
                  go_wp2_with fail
                  refine (HPU.out).mono ?_
                  rintro e w5 ⟨rfl, v', hq', ht', _⟩
                  have hb5 := HTQ.out _ ht'
                  have HQ5 := Lib.hid hq'
                  have HB5 := Lib.hid hb5
                  have HOV := Lib.hid (over_at (HAC.out _ hb5) HST.out)
                  have HOK5 := Lib.hid (HOK.out _ hb5)
                  have HVA5 := Lib.hid (HVA.out _ hb5)
                  clear hq' ht' hb5 HPU HQ HPL HB HQL HTQ HOK HVA
                  go_wp2_with (first
                    | (go_at_call 25; (with_reducible refine Calls.mono HOV.out ?_); rintro e wq ⟨rfl, rfl⟩)
                    | (go_at_call 18; (with_reducible refine Calls.mono HOK5.out ?_); rintro e wq ⟨rfl, rfl⟩)
                    | (go_at_call 19; (with_reducible refine Calls.mono HVA5.out ?_); rintro e wq ⟨rfl, rfl⟩))
                  go_roundw
                  case rel => exact ⟨k + 1, v', qk.tail, by go_num, by omega, hqk2, HQ5.out, HPL2.out, HB5.out⟩
                  case measure => simp [intOf]; omega
              · have d7 : decide (k < r) = false := by simp; omega
                have hrk : R.length ≤ k := by rw [← HRL.out]; omega
                have hqe : q = qk := by
                  have := HPL.out
                  rw [List.drop_eq_nil_of_le hrk] at this
                  exact this
                have HBA := Lib.hid (B3.out.trans (HB.out.mono (by have := B3.out.size; have := HQB.out; omega)))
                have hnw : nw < wA.heap.size := S.out.ord.2.2.2
                have hsz := HBA.out.size
                have hqlt : qb < wr.heap.size := HQ.out.row.lt
                have HBZ := Lib.hid ((HBW0.out.trans (S.out.bel.mono HBW0.out.size)).trans (HBA.out.mono (by have := HBW0.out.size; have := S.out.bel.size; omega)))
                have HWZ : Hid (W.heap.size ≤ wr.heap.size) := by have := HBW0.out.size; have := S.out.bel.size; exact (show W.heap.size ≤ wr.heap.size by omega)
                have c0' : wr.cell? ⟨nw, 0, none⟩ = some (.int .i64 (nwf 0)) := (HBA.out.cell (p := ⟨nw, 0, none⟩) hnw).trans (S.out.nc 0 (by omega))
                have c1' : wr.cell? ⟨nw, 1, none⟩ = some (.int .i64 (nwf 1)) := (HBA.out.cell (p := ⟨nw, 1, none⟩) hnw).trans (S.out.nc 1 (by omega))
                clear hrk HPL
                rcases P.out.way 0 (by omega) with ⟨hn0, hb0⟩ | ⟨i0, _, hn0, _⟩
                · rcases P.out.way 1 (by omega) with ⟨hn1, hb1⟩ | ⟨i1, _, hn1, _⟩
                  · rw [hn0] at c0'
                    rw [hn1] at c1'
                    have R5 := Lib.hid (S.out.ring.below HBA.out)
                    have X5 := Lib.hid P.out.rq
                    have Q5 := Lib.hid HQ.out
                    subst hqe
                    have c2' : wr.cell? ⟨qb, 1, none⟩ = some v := Q5.out.row.cell (by omega)
                    clear HQ hn0 hn1 hb0 hb1 S P B3 HB HBA HU
                    have HLN : Hid (∀ w', Below wr.heap.size wr w' → Calls Try.prog 22 #[.pointer (some ⟨rb, 0, none⟩)] w' (Quiet (.int .i64 (q.length : Nat)) w')) := fun w' hb => ring_Len (R5.out.below hb) X5.out
                    have HLS : Hid (∀ w', Below wr.heap.size wr w' → Calls Try.prog 24 #[.pointer (some ⟨rb, 0, none⟩)] w' fun e w2 => ∃ u, e = .returned u ∧ w2.ownsRow w'.heap.size 22 1 u q.length (kv .u64 q) ∧ Below w'.heap.size w' w2) := fun w' hb => ring_List (R5.out.below hb) X5.out
                    have HSM : Hid (∀ w' u, w'.ownsRow wr.heap.size 22 1 u q.length (kv .u64 q) → Below wr.heap.size wr w' → Calls Try.prog 23 #[u, v] w' (Quiet (.bool true) w')) := fun w' u hu hb => ref14_Same (Sl.of_own hu) ((Sl.of_own Q5.out.own).below hb)
                    obtain ⟨A2, cap2, hv2, _, _⟩ := (Sl.of_own Q5.out.own).form
                    subst hv2
                    obtain ⟨L2, hL2⟩ : ∃ L, L = q.length := ⟨_, rfl⟩
                    rw [← hL2] at HLN HLS HSM c2'
                    have hll : ((L2 : Int) != (L2 : Int)) = false := by simp
                    clear hL2
                    go_wp2_with fail
                    go_region_held3 (fun w' => w'.cell? ⟨nw, 0, none⟩ = some (.int .i64 (-1)) ∧ w'.cell? ⟨nw, 1, none⟩ = some (.int .i64 (-1)) ∧ w'.cell? ⟨qb, 1, none⟩ = some (.slice A2 L2 cap2)) (first | (with_reducible exact ⟨c0', c1', c2'⟩) | (with_reducible exact keepT (by assumption) (fun p hp => hbu.cell (by rcases hp with hp | hp <;> rw [hp] <;> go_size))) | go_keep) (first
                      | (go_at_call 22; (with_reducible refine Calls.mono (HLN.out _ (by (repeat' (first | (with_reducible exact Below.refl _ _) | (with_reducible assumption) | (with_reducible refine Below.setCell ?_ ?_ _) | (with_reducible refine Below.alloc ?_ ?_ _) | (with_reducible refine below_drewN ?_ _) | (with_reducible refine Below.drew ?_) | go_size)))) ?_); rintro e w6 ⟨rfl, nq6, rfl⟩)
                      | (go_at_call 24; (with_reducible refine Calls.mono (HLS.out _ (by (repeat' (first | (with_reducible exact Below.refl _ _) | (with_reducible assumption) | (with_reducible refine Below.setCell ?_ ?_ _) | (with_reducible refine Below.alloc ?_ ?_ _) | (with_reducible refine below_drewN ?_ _) | (with_reducible refine Below.drew ?_) | go_size)))) ?_); rintro e w7 ⟨u7, rfl, hu7, hbu⟩; have HB7 : Below wr.heap.size wr w7 := Below.trans (by (repeat' (first | (with_reducible exact Below.refl _ _) | (with_reducible assumption) | (with_reducible refine Below.setCell ?_ ?_ _) | (with_reducible refine Below.alloc ?_ ?_ _) | (with_reducible refine below_drewN ?_ _) | (with_reducible refine Below.drew ?_) | go_size))) (hbu.mono (by go_size)); have HU7 := Lib.hid (own_base hu7 (base' := wr.heap.size) (by go_size)); clear hu7)
                      | (go_at_call 23; (with_reducible refine Calls.mono (HSM.out _ _ HU7.out (by (repeat' (first | (with_reducible exact Below.refl _ _) | (with_reducible assumption) | (with_reducible refine Below.setCell ?_ ?_ _) | (with_reducible refine Below.alloc ?_ ?_ _) | (with_reducible refine below_drewN ?_ _) | (with_reducible refine Below.drew ?_) | go_size)))) ?_); rintro e w8 ⟨rfl, nq8, rfl⟩))
                    all_goals
                      have HB9 := Lib.hid HB7
                      go_wp2
                      go_ret
                      exact ⟨rfl, below_drewN (HBZ.out.trans (HB9.out.mono HWZ.out)) _⟩
                  · rw [hn0] at c0'
                    rw [hn1] at c1'
                    have d8 : decide ((i1 : Int) < 0) = false := by simp
                    have d9 : decide (0 ≤ (i1 : Int)) = true := by simp
                    clear HQ hn0 hn1 hb0 S P B3 HB HBA HU
                    go_wp2_with fail
                    refine wp_region_held_drew (S := fun w' => w'.cell? ⟨nw, 0, none⟩ = some (.int .i64 (-1)) ∧ w'.cell? ⟨nw, 1, none⟩ = some (.int .i64 (i1 : Int))) (by kernel_rfl) ?_ (fun hHeld => ?_)
                    · exact ⟨c0', c1'⟩
                    refine wpAnyH_take (i := 0) (oi := { dst := some 278, op := Go.Op.indexAddr 51 (Go.Operand.tmp 16) (Go.Operand.const (Go.Value.int Go.IntKind.i64 0)), type := 0, pos := "law.go:149", after := #[], guard := none }) (v := ?_) rfl (by kernel_rfl) (by kernel_rfl) (by kernel_rfl) (fun _ _ _ h => h) (Or.inl ⟨by rfl, ?_⟩) (by assumption) ?_
                    rotate_left
                    · intro w hSw
                      (try dsimp only at hSw)
                      go_simp
                      try with_reducible rfl
                    (try simp only [Act.put, List.setIfInBounds_toArray, List.set_cons_zero, List.set_cons_succ])
                    refine wpAnyH_take (i := 1) (oi := { dst := some 279, op := Go.Op.load 3 (Go.Operand.tmp 278), type := 3, pos := "law.go:149", after := #[{ on := 0, ground := Go.Ground.data }], guard := none }) (v := ?_) rfl (by kernel_rfl) (by kernel_rfl) (by kernel_rfl) (fun _ _ _ h => h) (Or.inl ⟨by rfl, ?_⟩) (by assumption) ?_
                    rotate_left
                    · intro w hSw
                      (try dsimp only at hSw)
                      go_simp
                      try with_reducible rfl
                    (try simp only [Act.put, List.setIfInBounds_toArray, List.set_cons_zero, List.set_cons_succ])
                    refine wpAnyH_take (i := 2) (oi := { dst := some 280, op := Go.Op.binOp Go.BinOp.geq 3 (Go.Operand.tmp 279) (Go.Operand.const (Go.Value.int Go.IntKind.i64 0)) 3, type := 4, pos := "law.go:149", after := #[{ on := 1, ground := Go.Ground.data }], guard := none }) (v := ?_) rfl (by kernel_rfl) (by kernel_rfl) (by kernel_rfl) (fun _ _ _ h => h) (Or.inl ⟨by rfl, ?_⟩) (by assumption) ?_
                    rotate_left
                    · intro w hSw
                      (try dsimp only at hSw)
                      go_simp
                      try with_reducible rfl
                    (try simp only [Act.put, List.setIfInBounds_toArray, List.set_cons_zero, List.set_cons_succ])
                    refine wpAnyH_take (i := 3) (oi := { dst := some 281, op := Go.Op.move (Go.Operand.tmp 280), type := 4, pos := "law.go:149", after := #[{ on := 2, ground := Go.Ground.data }], guard := none }) (v := ?_) rfl (by kernel_rfl) (by kernel_rfl) (by kernel_rfl) (fun _ _ _ h => h) (Or.inl ⟨by rfl, ?_⟩) (by assumption) ?_
                    rotate_left
                    · intro w hSw
                      (try dsimp only at hSw)
                      go_simp
                      try with_reducible rfl
                    (try simp only [Act.put, List.setIfInBounds_toArray, List.set_cons_zero, List.set_cons_succ])
                    refine wpAnyH_take (i := 4) (oi := { dst := some 282, op := Go.Op.indexAddr 51 (Go.Operand.tmp 16) (Go.Operand.const (Go.Value.int Go.IntKind.i64 1)), type := 0, pos := "law.go:149", after := #[{ on := 3, ground := Go.Ground.guard }], guard := some (3, false) }) (v := ?_) rfl (by kernel_rfl) (by kernel_rfl) (by kernel_rfl) (fun _ _ _ h => h) (Or.inl ⟨by rfl, ?_⟩) (by assumption) ?_
                    rotate_left
                    · intro w hSw
                      (try dsimp only at hSw)
                      go_simp
                      try with_reducible rfl
                    (try simp only [Act.put, List.setIfInBounds_toArray, List.set_cons_zero, List.set_cons_succ])
                    refine wpAnyH_take (i := 5) (oi := { dst := some 283, op := Go.Op.load 3 (Go.Operand.tmp 282), type := 3, pos := "law.go:149", after := #[{ on := 4, ground := Go.Ground.data }, { on := 3, ground := Go.Ground.guard }], guard := some (3, false) }) (v := ?_) rfl (by kernel_rfl) (by kernel_rfl) (by kernel_rfl) (fun _ _ _ h => h) (Or.inl ⟨by rfl, ?_⟩) (by assumption) ?_
                    rotate_left
                    · intro w hSw
                      (try dsimp only at hSw)
                      go_simp
                      try with_reducible rfl
                    (try simp only [Act.put, List.setIfInBounds_toArray, List.set_cons_zero, List.set_cons_succ])
                    refine wpAnyH_take (i := 6) (oi := { dst := some 284, op := Go.Op.binOp Go.BinOp.geq 3 (Go.Operand.tmp 283) (Go.Operand.const (Go.Value.int Go.IntKind.i64 0)) 3, type := 4, pos := "law.go:149", after := #[{ on := 5, ground := Go.Ground.data }, { on := 3, ground := Go.Ground.guard }], guard := some (3, false) }) (v := ?_) rfl (by kernel_rfl) (by kernel_rfl) (by kernel_rfl) (fun _ _ _ h => h) (Or.inl ⟨by rfl, ?_⟩) (by assumption) ?_
                    rotate_left
                    · intro w hSw
                      (try dsimp only at hSw)
                      go_simp
                      try with_reducible rfl
                    (try simp only [Act.put, List.setIfInBounds_toArray, List.set_cons_zero, List.set_cons_succ])
                    refine wpAnyH_take (i := 7) (oi := { dst := some 285, op := Go.Op.pick (Go.Operand.tmp 281) (Go.Operand.const (Go.Value.bool true)) (Go.Operand.tmp 284), type := 4, pos := "law.go:149", after := #[{ on := 3, ground := Go.Ground.data }, { on := 6, ground := Go.Ground.data }], guard := none }) (v := ?_) rfl (by kernel_rfl) (by kernel_rfl) (by kernel_rfl) (fun _ _ _ h => h) (Or.inl ⟨by rfl, ?_⟩) (by assumption) ?_
                    rotate_left
                    · intro w hSw
                      (try dsimp only at hSw)
                      go_simp
                      try with_reducible rfl
                    (try simp only [Act.put, List.setIfInBounds_toArray, List.set_cons_zero, List.set_cons_succ])
                    refine wpAnyH_take (i := 8) (oi := { dst := some 286, op := Go.Op.move (Go.Operand.tmp 285), type := 4, pos := "law.go:149", after := #[{ on := 7, ground := Go.Ground.data }, { on := 3, ground := Go.Ground.chain }], guard := none }) (v := ?_) rfl (by kernel_rfl) (by kernel_rfl) (by kernel_rfl) (fun _ _ _ h => h) (Or.inl ⟨by rfl, ?_⟩) (by assumption) ?_
                    rotate_left
                    · intro w hSw
                      (try dsimp only at hSw)
                      go_simp
                      try with_reducible rfl
                    (try simp only [Act.put, List.setIfInBounds_toArray, List.set_cons_zero, List.set_cons_succ])
                    refine wpAnyH_take (i := 9) (oi := { dst := some 287, op := Go.Op.move (Go.Operand.tmp 10), type := 28, pos := "law.go:149", after := #[{ on := 8, ground := Go.Ground.guard }], guard := some (8, false) }) (v := undef) rfl (by kernel_rfl) (by kernel_rfl) (by kernel_rfl) (fun _ _ _ h => h) (Or.inr ⟨by rfl, rfl⟩) (by assumption) ?_
                    (try simp only [Act.put, List.setIfInBounds_toArray, List.set_cons_zero, List.set_cons_succ])
                    refine wpAnyH_take (i := 10) (oi := { dst := some 288, op := Go.Op.call { callee := Go.Callee.value (Go.Operand.func 22), args := #[Go.Operand.tmp 287], argTypes := #[28] }, type := 3, pos := "law.go:149", after := #[{ on := 9, ground := Go.Ground.data }, { on := 8, ground := Go.Ground.chain }, { on := 8, ground := Go.Ground.guard }], guard := some (8, false) }) (v := undef) rfl (by kernel_rfl) (by kernel_rfl) (by kernel_rfl) (fun _ _ _ h => h) (Or.inr ⟨by rfl, rfl⟩) (by assumption) ?_
                    (try simp only [Act.put, List.setIfInBounds_toArray, List.set_cons_zero, List.set_cons_succ])
                    refine wpAnyH_take (i := 11) (oi := { dst := some 289, op := Go.Op.move (Go.Operand.tmp 29), type := 33, pos := "law.go:149", after := #[{ on := 8, ground := Go.Ground.guard }], guard := some (8, false) }) (v := undef) rfl (by kernel_rfl) (by kernel_rfl) (by kernel_rfl) (fun _ _ _ h => h) (Or.inr ⟨by rfl, rfl⟩) (by assumption) ?_
                    (try simp only [Act.put, List.setIfInBounds_toArray, List.set_cons_zero, List.set_cons_succ])
                    refine wpAnyH_take (i := 12) (oi := { dst := some 290, op := Go.Op.nilCheck (Go.Operand.tmp 289), type := 0, pos := "law.go:149", after := #[{ on := 11, ground := Go.Ground.data }, { on := 8, ground := Go.Ground.guard }], guard := some (8, false) }) (v := undef) rfl (by kernel_rfl) (by kernel_rfl) (by kernel_rfl) (fun _ _ _ h => h) (Or.inr ⟨by rfl, rfl⟩) (by assumption) ?_
                    (try simp only [Act.put, List.setIfInBounds_toArray, List.set_cons_zero, List.set_cons_succ])
                    refine wpAnyH_take (i := 13) (oi := { dst := some 291, op := Go.Op.fieldAddr 35 (Go.Operand.tmp 290) 1, type := 0, pos := "law.go:149", after := #[{ on := 12, ground := Go.Ground.data }, { on := 8, ground := Go.Ground.guard }], guard := some (8, false) }) (v := undef) rfl (by kernel_rfl) (by kernel_rfl) (by kernel_rfl) (fun _ _ _ h => h) (Or.inr ⟨by rfl, rfl⟩) (by assumption) ?_
                    (try simp only [Act.put, List.setIfInBounds_toArray, List.set_cons_zero, List.set_cons_succ])
                    refine wpAnyH_take (i := 14) (oi := { dst := some 292, op := Go.Op.load 23 (Go.Operand.tmp 291), type := 23, pos := "law.go:149", after := #[{ on := 13, ground := Go.Ground.data }, { on := 8, ground := Go.Ground.guard }], guard := some (8, false) }) (v := undef) rfl (by kernel_rfl) (by kernel_rfl) (by kernel_rfl) (fun _ _ _ h => h) (Or.inr ⟨by rfl, rfl⟩) (by assumption) ?_
                    (try simp only [Act.put, List.setIfInBounds_toArray, List.set_cons_zero, List.set_cons_succ])
                    refine wpAnyH_take (i := 15) (oi := { dst := some 293, op := Go.Op.call { callee := Go.Callee.builtin Go.Builtin.len, args := #[Go.Operand.tmp 292], argTypes := #[23] }, type := 3, pos := "law.go:149", after := #[{ on := 14, ground := Go.Ground.data }, { on := 8, ground := Go.Ground.guard }], guard := some (8, false) }) (v := undef) rfl (by kernel_rfl) (by kernel_rfl) (by kernel_rfl) (fun _ _ _ h => h) (Or.inr ⟨by rfl, rfl⟩) (by assumption) ?_
                    (try simp only [Act.put, List.setIfInBounds_toArray, List.set_cons_zero, List.set_cons_succ])
                    refine wpAnyH_take (i := 16) (oi := { dst := some 294, op := Go.Op.binOp Go.BinOp.eql 3 (Go.Operand.tmp 288) (Go.Operand.tmp 293) 3, type := 4, pos := "law.go:149", after := #[{ on := 10, ground := Go.Ground.data }, { on := 15, ground := Go.Ground.data }, { on := 8, ground := Go.Ground.guard }], guard := some (8, false) }) (v := undef) rfl (by kernel_rfl) (by kernel_rfl) (by kernel_rfl) (fun _ _ _ h => h) (Or.inr ⟨by rfl, rfl⟩) (by assumption) ?_
                    (try simp only [Act.put, List.setIfInBounds_toArray, List.set_cons_zero, List.set_cons_succ])
                    refine wpAnyH_take (i := 17) (oi := { dst := some 295, op := Go.Op.move (Go.Operand.tmp 294), type := 4, pos := "law.go:149", after := #[{ on := 16, ground := Go.Ground.data }, { on := 10, ground := Go.Ground.chain }, { on := 8, ground := Go.Ground.guard }], guard := some (8, false) }) (v := undef) rfl (by kernel_rfl) (by kernel_rfl) (by kernel_rfl) (fun _ _ _ h => h) (Or.inr ⟨by rfl, rfl⟩) (by assumption) ?_
                    (try simp only [Act.put, List.setIfInBounds_toArray, List.set_cons_zero, List.set_cons_succ])
                    refine wpAnyH_take (i := 18) (oi := { dst := some 296, op := Go.Op.move (Go.Operand.tmp 10), type := 28, pos := "law.go:149", after := #[{ on := 17, ground := Go.Ground.guard }], guard := some (17, true) }) (v := undef) rfl (by kernel_rfl) (by kernel_rfl) (by kernel_rfl) (fun _ _ _ h => h) (Or.inr ⟨by rfl, rfl⟩) (by assumption) ?_
                    (try simp only [Act.put, List.setIfInBounds_toArray, List.set_cons_zero, List.set_cons_succ])
                    refine wpAnyH_take (i := 19) (oi := { dst := some 297, op := Go.Op.call { callee := Go.Callee.value (Go.Operand.func 24), args := #[Go.Operand.tmp 296], argTypes := #[28] }, type := 23, pos := "law.go:149", after := #[{ on := 18, ground := Go.Ground.data }, { on := 17, ground := Go.Ground.chain }, { on := 17, ground := Go.Ground.guard }], guard := some (17, true) }) (v := undef) rfl (by kernel_rfl) (by kernel_rfl) (by kernel_rfl) (fun _ _ _ h => h) (Or.inr ⟨by rfl, rfl⟩) (by assumption) ?_
                    (try simp only [Act.put, List.setIfInBounds_toArray, List.set_cons_zero, List.set_cons_succ])
                    refine wpAnyH_take (i := 20) (oi := { dst := some 298, op := Go.Op.move (Go.Operand.tmp 29), type := 33, pos := "law.go:149", after := #[{ on := 17, ground := Go.Ground.guard }], guard := some (17, true) }) (v := undef) rfl (by kernel_rfl) (by kernel_rfl) (by kernel_rfl) (fun _ _ _ h => h) (Or.inr ⟨by rfl, rfl⟩) (by assumption) ?_
                    (try simp only [Act.put, List.setIfInBounds_toArray, List.set_cons_zero, List.set_cons_succ])
                    refine wpAnyH_take (i := 21) (oi := { dst := some 299, op := Go.Op.nilCheck (Go.Operand.tmp 298), type := 0, pos := "law.go:149", after := #[{ on := 20, ground := Go.Ground.data }, { on := 17, ground := Go.Ground.guard }], guard := some (17, true) }) (v := undef) rfl (by kernel_rfl) (by kernel_rfl) (by kernel_rfl) (fun _ _ _ h => h) (Or.inr ⟨by rfl, rfl⟩) (by assumption) ?_
                    (try simp only [Act.put, List.setIfInBounds_toArray, List.set_cons_zero, List.set_cons_succ])
                    refine wpAnyH_take (i := 22) (oi := { dst := some 300, op := Go.Op.fieldAddr 35 (Go.Operand.tmp 299) 1, type := 0, pos := "law.go:149", after := #[{ on := 21, ground := Go.Ground.data }, { on := 17, ground := Go.Ground.guard }], guard := some (17, true) }) (v := undef) rfl (by kernel_rfl) (by kernel_rfl) (by kernel_rfl) (fun _ _ _ h => h) (Or.inr ⟨by rfl, rfl⟩) (by assumption) ?_
                    (try simp only [Act.put, List.setIfInBounds_toArray, List.set_cons_zero, List.set_cons_succ])
                    refine wpAnyH_take (i := 23) (oi := { dst := some 301, op := Go.Op.load 23 (Go.Operand.tmp 300), type := 23, pos := "law.go:149", after := #[{ on := 22, ground := Go.Ground.data }, { on := 17, ground := Go.Ground.guard }], guard := some (17, true) }) (v := undef) rfl (by kernel_rfl) (by kernel_rfl) (by kernel_rfl) (fun _ _ _ h => h) (Or.inr ⟨by rfl, rfl⟩) (by assumption) ?_
                    (try simp only [Act.put, List.setIfInBounds_toArray, List.set_cons_zero, List.set_cons_succ])
                    refine wpAnyH_take (i := 24) (oi := { dst := some 302, op := Go.Op.call { callee := Go.Callee.value (Go.Operand.func 23), args := #[Go.Operand.tmp 297, Go.Operand.tmp 301], argTypes := #[23, 23] }, type := 4, pos := "law.go:149", after := #[{ on := 19, ground := Go.Ground.data }, { on := 23, ground := Go.Ground.data }, { on := 19, ground := Go.Ground.chain }, { on := 17, ground := Go.Ground.guard }], guard := some (17, true) }) (v := undef) rfl (by kernel_rfl) (by kernel_rfl) (by kernel_rfl) (fun _ _ _ h => h) (Or.inr ⟨by rfl, rfl⟩) (by assumption) ?_
                    (try simp only [Act.put, List.setIfInBounds_toArray, List.set_cons_zero, List.set_cons_succ])
                    refine wpAnyH_take (i := 25) (oi := { dst := some 303, op := Go.Op.pick (Go.Operand.tmp 295) (Go.Operand.tmp 302) (Go.Operand.const (Go.Value.bool false)), type := 4, pos := "law.go:149", after := #[{ on := 17, ground := Go.Ground.data }, { on := 24, ground := Go.Ground.data }, { on := 8, ground := Go.Ground.guard }], guard := some (8, false) }) (v := undef) rfl (by kernel_rfl) (by kernel_rfl) (by kernel_rfl) (fun _ _ _ h => h) (Or.inr ⟨by rfl, rfl⟩) (by assumption) ?_
                    (try simp only [Act.put, List.setIfInBounds_toArray, List.set_cons_zero, List.set_cons_succ])
                    refine wpAnyH_take (i := 26) (oi := { dst := some 304, op := Go.Op.pick (Go.Operand.tmp 286) (Go.Operand.const (Go.Value.bool true)) (Go.Operand.tmp 303), type := 4, pos := "law.go:149", after := #[{ on := 8, ground := Go.Ground.data }, { on := 25, ground := Go.Ground.data }], guard := none }) (v := ?_) rfl (by kernel_rfl) (by kernel_rfl) (by kernel_rfl) (fun _ _ _ h => h) (Or.inl ⟨by rfl, ?_⟩) (by assumption) ?_
                    rotate_left
                    · intro w hSw
                      (try dsimp only at hSw)
                      go_simp
                      try with_reducible rfl
                    (try simp only [Act.put, List.setIfInBounds_toArray, List.set_cons_zero, List.set_cons_succ])
                    refine wpAnyH_take (i := 27) (oi := { dst := some 6, op := Go.Op.assign (Go.Operand.tmp 304), type := 4, pos := "law.go:149", after := #[{ on := 26, ground := Go.Ground.data }, { on := 24, ground := Go.Ground.chain }, { on := 0, ground := Go.Ground.phase }, { on := 1, ground := Go.Ground.phase }, { on := 2, ground := Go.Ground.phase }, { on := 3, ground := Go.Ground.phase }, { on := 4, ground := Go.Ground.phase }, { on := 5, ground := Go.Ground.phase }, { on := 6, ground := Go.Ground.phase }, { on := 7, ground := Go.Ground.phase }, { on := 8, ground := Go.Ground.phase }, { on := 9, ground := Go.Ground.phase }, { on := 10, ground := Go.Ground.phase }, { on := 11, ground := Go.Ground.phase }, { on := 12, ground := Go.Ground.phase }, { on := 13, ground := Go.Ground.phase }, { on := 14, ground := Go.Ground.phase }, { on := 15, ground := Go.Ground.phase }, { on := 16, ground := Go.Ground.phase }, { on := 17, ground := Go.Ground.phase }, { on := 18, ground := Go.Ground.phase }, { on := 19, ground := Go.Ground.phase }, { on := 20, ground := Go.Ground.phase }, { on := 21, ground := Go.Ground.phase }, { on := 22, ground := Go.Ground.phase }, { on := 23, ground := Go.Ground.phase }, { on := 24, ground := Go.Ground.phase }, { on := 25, ground := Go.Ground.phase }, { on := 26, ground := Go.Ground.phase }], guard := none }) (v := ?_) rfl (by kernel_rfl) (by kernel_rfl) (by kernel_rfl) (fun _ _ _ h => h) (Or.inl ⟨by rfl, ?_⟩) (by assumption) ?_
                    rotate_left
                    · intro w hSw
                      (try dsimp only at hSw)
                      go_simp
                      try with_reducible rfl
                    (try simp only [Act.put, List.setIfInBounds_toArray, List.set_cons_zero, List.set_cons_succ])
                    refine wpAnyH_done (by kernel_rfl) ?_ _
                    go_wp2
                    go_ret
                    exact ⟨rfl, below_drewN HBZ.out _⟩
                · rw [hn0] at c0'
                  have d8 : decide ((i0 : Int) < 0) = false := by simp
                  have d9 : decide (0 ≤ (i0 : Int)) = true := by simp
                  clear HQ hn0 S P B3 HB HBA HU c1'
                  go_wp2_with fail
                  refine wp_region_held_drew (S := fun w' => w'.cell? ⟨nw, 0, none⟩ = some (.int .i64 (i0 : Int))) (by kernel_rfl) ?_ (fun hHeld => ?_)
                  · exact c0'
                  refine wpAnyH_take (i := 0) (oi := { dst := some 278, op := Go.Op.indexAddr 51 (Go.Operand.tmp 16) (Go.Operand.const (Go.Value.int Go.IntKind.i64 0)), type := 0, pos := "law.go:149", after := #[], guard := none }) (v := ?_) rfl (by kernel_rfl) (by kernel_rfl) (by kernel_rfl) (fun _ _ _ h => h) (Or.inl ⟨by rfl, ?_⟩) (by assumption) ?_
                  rotate_left
                  · intro w hSw
                    (try dsimp only at hSw)
                    go_simp
                    try with_reducible rfl
                  (try simp only [Act.put, List.setIfInBounds_toArray, List.set_cons_zero, List.set_cons_succ])
                  refine wpAnyH_take (i := 1) (oi := { dst := some 279, op := Go.Op.load 3 (Go.Operand.tmp 278), type := 3, pos := "law.go:149", after := #[{ on := 0, ground := Go.Ground.data }], guard := none }) (v := ?_) rfl (by kernel_rfl) (by kernel_rfl) (by kernel_rfl) (fun _ _ _ h => h) (Or.inl ⟨by rfl, ?_⟩) (by assumption) ?_
                  rotate_left
                  · intro w hSw
                    (try dsimp only at hSw)
                    go_simp
                    try with_reducible rfl
                  (try simp only [Act.put, List.setIfInBounds_toArray, List.set_cons_zero, List.set_cons_succ])
                  refine wpAnyH_take (i := 2) (oi := { dst := some 280, op := Go.Op.binOp Go.BinOp.geq 3 (Go.Operand.tmp 279) (Go.Operand.const (Go.Value.int Go.IntKind.i64 0)) 3, type := 4, pos := "law.go:149", after := #[{ on := 1, ground := Go.Ground.data }], guard := none }) (v := ?_) rfl (by kernel_rfl) (by kernel_rfl) (by kernel_rfl) (fun _ _ _ h => h) (Or.inl ⟨by rfl, ?_⟩) (by assumption) ?_
                  rotate_left
                  · intro w hSw
                    (try dsimp only at hSw)
                    go_simp
                    try with_reducible rfl
                  (try simp only [Act.put, List.setIfInBounds_toArray, List.set_cons_zero, List.set_cons_succ])
                  refine wpAnyH_take (i := 3) (oi := { dst := some 281, op := Go.Op.move (Go.Operand.tmp 280), type := 4, pos := "law.go:149", after := #[{ on := 2, ground := Go.Ground.data }], guard := none }) (v := ?_) rfl (by kernel_rfl) (by kernel_rfl) (by kernel_rfl) (fun _ _ _ h => h) (Or.inl ⟨by rfl, ?_⟩) (by assumption) ?_
                  rotate_left
                  · intro w hSw
                    (try dsimp only at hSw)
                    go_simp
                    try with_reducible rfl
                  (try simp only [Act.put, List.setIfInBounds_toArray, List.set_cons_zero, List.set_cons_succ])
                  refine wpAnyH_take (i := 4) (oi := { dst := some 282, op := Go.Op.indexAddr 51 (Go.Operand.tmp 16) (Go.Operand.const (Go.Value.int Go.IntKind.i64 1)), type := 0, pos := "law.go:149", after := #[{ on := 3, ground := Go.Ground.guard }], guard := some (3, false) }) (v := undef) rfl (by kernel_rfl) (by kernel_rfl) (by kernel_rfl) (fun _ _ _ h => h) (Or.inr ⟨by rfl, rfl⟩) (by assumption) ?_
                  (try simp only [Act.put, List.setIfInBounds_toArray, List.set_cons_zero, List.set_cons_succ])
                  refine wpAnyH_take (i := 5) (oi := { dst := some 283, op := Go.Op.load 3 (Go.Operand.tmp 282), type := 3, pos := "law.go:149", after := #[{ on := 4, ground := Go.Ground.data }, { on := 3, ground := Go.Ground.guard }], guard := some (3, false) }) (v := undef) rfl (by kernel_rfl) (by kernel_rfl) (by kernel_rfl) (fun _ _ _ h => h) (Or.inr ⟨by rfl, rfl⟩) (by assumption) ?_
                  (try simp only [Act.put, List.setIfInBounds_toArray, List.set_cons_zero, List.set_cons_succ])
                  refine wpAnyH_take (i := 6) (oi := { dst := some 284, op := Go.Op.binOp Go.BinOp.geq 3 (Go.Operand.tmp 283) (Go.Operand.const (Go.Value.int Go.IntKind.i64 0)) 3, type := 4, pos := "law.go:149", after := #[{ on := 5, ground := Go.Ground.data }, { on := 3, ground := Go.Ground.guard }], guard := some (3, false) }) (v := undef) rfl (by kernel_rfl) (by kernel_rfl) (by kernel_rfl) (fun _ _ _ h => h) (Or.inr ⟨by rfl, rfl⟩) (by assumption) ?_
                  (try simp only [Act.put, List.setIfInBounds_toArray, List.set_cons_zero, List.set_cons_succ])
                  refine wpAnyH_take (i := 7) (oi := { dst := some 285, op := Go.Op.pick (Go.Operand.tmp 281) (Go.Operand.const (Go.Value.bool true)) (Go.Operand.tmp 284), type := 4, pos := "law.go:149", after := #[{ on := 3, ground := Go.Ground.data }, { on := 6, ground := Go.Ground.data }], guard := none }) (v := ?_) rfl (by kernel_rfl) (by kernel_rfl) (by kernel_rfl) (fun _ _ _ h => h) (Or.inl ⟨by rfl, ?_⟩) (by assumption) ?_
                  rotate_left
                  · intro w hSw
                    (try dsimp only at hSw)
                    go_simp
                    try with_reducible rfl
                  (try simp only [Act.put, List.setIfInBounds_toArray, List.set_cons_zero, List.set_cons_succ])
                  refine wpAnyH_take (i := 8) (oi := { dst := some 286, op := Go.Op.move (Go.Operand.tmp 285), type := 4, pos := "law.go:149", after := #[{ on := 7, ground := Go.Ground.data }, { on := 3, ground := Go.Ground.chain }], guard := none }) (v := ?_) rfl (by kernel_rfl) (by kernel_rfl) (by kernel_rfl) (fun _ _ _ h => h) (Or.inl ⟨by rfl, ?_⟩) (by assumption) ?_
                  rotate_left
                  · intro w hSw
                    (try dsimp only at hSw)
                    go_simp
                    try with_reducible rfl
                  (try simp only [Act.put, List.setIfInBounds_toArray, List.set_cons_zero, List.set_cons_succ])
                  refine wpAnyH_take (i := 9) (oi := { dst := some 287, op := Go.Op.move (Go.Operand.tmp 10), type := 28, pos := "law.go:149", after := #[{ on := 8, ground := Go.Ground.guard }], guard := some (8, false) }) (v := undef) rfl (by kernel_rfl) (by kernel_rfl) (by kernel_rfl) (fun _ _ _ h => h) (Or.inr ⟨by rfl, rfl⟩) (by assumption) ?_
                  (try simp only [Act.put, List.setIfInBounds_toArray, List.set_cons_zero, List.set_cons_succ])
                  refine wpAnyH_take (i := 10) (oi := { dst := some 288, op := Go.Op.call { callee := Go.Callee.value (Go.Operand.func 22), args := #[Go.Operand.tmp 287], argTypes := #[28] }, type := 3, pos := "law.go:149", after := #[{ on := 9, ground := Go.Ground.data }, { on := 8, ground := Go.Ground.chain }, { on := 8, ground := Go.Ground.guard }], guard := some (8, false) }) (v := undef) rfl (by kernel_rfl) (by kernel_rfl) (by kernel_rfl) (fun _ _ _ h => h) (Or.inr ⟨by rfl, rfl⟩) (by assumption) ?_
                  (try simp only [Act.put, List.setIfInBounds_toArray, List.set_cons_zero, List.set_cons_succ])
                  refine wpAnyH_take (i := 11) (oi := { dst := some 289, op := Go.Op.move (Go.Operand.tmp 29), type := 33, pos := "law.go:149", after := #[{ on := 8, ground := Go.Ground.guard }], guard := some (8, false) }) (v := undef) rfl (by kernel_rfl) (by kernel_rfl) (by kernel_rfl) (fun _ _ _ h => h) (Or.inr ⟨by rfl, rfl⟩) (by assumption) ?_
                  (try simp only [Act.put, List.setIfInBounds_toArray, List.set_cons_zero, List.set_cons_succ])
                  refine wpAnyH_take (i := 12) (oi := { dst := some 290, op := Go.Op.nilCheck (Go.Operand.tmp 289), type := 0, pos := "law.go:149", after := #[{ on := 11, ground := Go.Ground.data }, { on := 8, ground := Go.Ground.guard }], guard := some (8, false) }) (v := undef) rfl (by kernel_rfl) (by kernel_rfl) (by kernel_rfl) (fun _ _ _ h => h) (Or.inr ⟨by rfl, rfl⟩) (by assumption) ?_
                  (try simp only [Act.put, List.setIfInBounds_toArray, List.set_cons_zero, List.set_cons_succ])
                  refine wpAnyH_take (i := 13) (oi := { dst := some 291, op := Go.Op.fieldAddr 35 (Go.Operand.tmp 290) 1, type := 0, pos := "law.go:149", after := #[{ on := 12, ground := Go.Ground.data }, { on := 8, ground := Go.Ground.guard }], guard := some (8, false) }) (v := undef) rfl (by kernel_rfl) (by kernel_rfl) (by kernel_rfl) (fun _ _ _ h => h) (Or.inr ⟨by rfl, rfl⟩) (by assumption) ?_
                  (try simp only [Act.put, List.setIfInBounds_toArray, List.set_cons_zero, List.set_cons_succ])
                  refine wpAnyH_take (i := 14) (oi := { dst := some 292, op := Go.Op.load 23 (Go.Operand.tmp 291), type := 23, pos := "law.go:149", after := #[{ on := 13, ground := Go.Ground.data }, { on := 8, ground := Go.Ground.guard }], guard := some (8, false) }) (v := undef) rfl (by kernel_rfl) (by kernel_rfl) (by kernel_rfl) (fun _ _ _ h => h) (Or.inr ⟨by rfl, rfl⟩) (by assumption) ?_
                  (try simp only [Act.put, List.setIfInBounds_toArray, List.set_cons_zero, List.set_cons_succ])
                  refine wpAnyH_take (i := 15) (oi := { dst := some 293, op := Go.Op.call { callee := Go.Callee.builtin Go.Builtin.len, args := #[Go.Operand.tmp 292], argTypes := #[23] }, type := 3, pos := "law.go:149", after := #[{ on := 14, ground := Go.Ground.data }, { on := 8, ground := Go.Ground.guard }], guard := some (8, false) }) (v := undef) rfl (by kernel_rfl) (by kernel_rfl) (by kernel_rfl) (fun _ _ _ h => h) (Or.inr ⟨by rfl, rfl⟩) (by assumption) ?_
                  (try simp only [Act.put, List.setIfInBounds_toArray, List.set_cons_zero, List.set_cons_succ])
                  refine wpAnyH_take (i := 16) (oi := { dst := some 294, op := Go.Op.binOp Go.BinOp.eql 3 (Go.Operand.tmp 288) (Go.Operand.tmp 293) 3, type := 4, pos := "law.go:149", after := #[{ on := 10, ground := Go.Ground.data }, { on := 15, ground := Go.Ground.data }, { on := 8, ground := Go.Ground.guard }], guard := some (8, false) }) (v := undef) rfl (by kernel_rfl) (by kernel_rfl) (by kernel_rfl) (fun _ _ _ h => h) (Or.inr ⟨by rfl, rfl⟩) (by assumption) ?_
                  (try simp only [Act.put, List.setIfInBounds_toArray, List.set_cons_zero, List.set_cons_succ])
                  refine wpAnyH_take (i := 17) (oi := { dst := some 295, op := Go.Op.move (Go.Operand.tmp 294), type := 4, pos := "law.go:149", after := #[{ on := 16, ground := Go.Ground.data }, { on := 10, ground := Go.Ground.chain }, { on := 8, ground := Go.Ground.guard }], guard := some (8, false) }) (v := undef) rfl (by kernel_rfl) (by kernel_rfl) (by kernel_rfl) (fun _ _ _ h => h) (Or.inr ⟨by rfl, rfl⟩) (by assumption) ?_
                  (try simp only [Act.put, List.setIfInBounds_toArray, List.set_cons_zero, List.set_cons_succ])
                  refine wpAnyH_take (i := 18) (oi := { dst := some 296, op := Go.Op.move (Go.Operand.tmp 10), type := 28, pos := "law.go:149", after := #[{ on := 17, ground := Go.Ground.guard }], guard := some (17, true) }) (v := undef) rfl (by kernel_rfl) (by kernel_rfl) (by kernel_rfl) (fun _ _ _ h => h) (Or.inr ⟨by rfl, rfl⟩) (by assumption) ?_
                  (try simp only [Act.put, List.setIfInBounds_toArray, List.set_cons_zero, List.set_cons_succ])
                  refine wpAnyH_take (i := 19) (oi := { dst := some 297, op := Go.Op.call { callee := Go.Callee.value (Go.Operand.func 24), args := #[Go.Operand.tmp 296], argTypes := #[28] }, type := 23, pos := "law.go:149", after := #[{ on := 18, ground := Go.Ground.data }, { on := 17, ground := Go.Ground.chain }, { on := 17, ground := Go.Ground.guard }], guard := some (17, true) }) (v := undef) rfl (by kernel_rfl) (by kernel_rfl) (by kernel_rfl) (fun _ _ _ h => h) (Or.inr ⟨by rfl, rfl⟩) (by assumption) ?_
                  (try simp only [Act.put, List.setIfInBounds_toArray, List.set_cons_zero, List.set_cons_succ])
                  refine wpAnyH_take (i := 20) (oi := { dst := some 298, op := Go.Op.move (Go.Operand.tmp 29), type := 33, pos := "law.go:149", after := #[{ on := 17, ground := Go.Ground.guard }], guard := some (17, true) }) (v := undef) rfl (by kernel_rfl) (by kernel_rfl) (by kernel_rfl) (fun _ _ _ h => h) (Or.inr ⟨by rfl, rfl⟩) (by assumption) ?_
                  (try simp only [Act.put, List.setIfInBounds_toArray, List.set_cons_zero, List.set_cons_succ])
                  refine wpAnyH_take (i := 21) (oi := { dst := some 299, op := Go.Op.nilCheck (Go.Operand.tmp 298), type := 0, pos := "law.go:149", after := #[{ on := 20, ground := Go.Ground.data }, { on := 17, ground := Go.Ground.guard }], guard := some (17, true) }) (v := undef) rfl (by kernel_rfl) (by kernel_rfl) (by kernel_rfl) (fun _ _ _ h => h) (Or.inr ⟨by rfl, rfl⟩) (by assumption) ?_
                  (try simp only [Act.put, List.setIfInBounds_toArray, List.set_cons_zero, List.set_cons_succ])
                  refine wpAnyH_take (i := 22) (oi := { dst := some 300, op := Go.Op.fieldAddr 35 (Go.Operand.tmp 299) 1, type := 0, pos := "law.go:149", after := #[{ on := 21, ground := Go.Ground.data }, { on := 17, ground := Go.Ground.guard }], guard := some (17, true) }) (v := undef) rfl (by kernel_rfl) (by kernel_rfl) (by kernel_rfl) (fun _ _ _ h => h) (Or.inr ⟨by rfl, rfl⟩) (by assumption) ?_
                  (try simp only [Act.put, List.setIfInBounds_toArray, List.set_cons_zero, List.set_cons_succ])
                  refine wpAnyH_take (i := 23) (oi := { dst := some 301, op := Go.Op.load 23 (Go.Operand.tmp 300), type := 23, pos := "law.go:149", after := #[{ on := 22, ground := Go.Ground.data }, { on := 17, ground := Go.Ground.guard }], guard := some (17, true) }) (v := undef) rfl (by kernel_rfl) (by kernel_rfl) (by kernel_rfl) (fun _ _ _ h => h) (Or.inr ⟨by rfl, rfl⟩) (by assumption) ?_
                  (try simp only [Act.put, List.setIfInBounds_toArray, List.set_cons_zero, List.set_cons_succ])
                  refine wpAnyH_take (i := 24) (oi := { dst := some 302, op := Go.Op.call { callee := Go.Callee.value (Go.Operand.func 23), args := #[Go.Operand.tmp 297, Go.Operand.tmp 301], argTypes := #[23, 23] }, type := 4, pos := "law.go:149", after := #[{ on := 19, ground := Go.Ground.data }, { on := 23, ground := Go.Ground.data }, { on := 19, ground := Go.Ground.chain }, { on := 17, ground := Go.Ground.guard }], guard := some (17, true) }) (v := undef) rfl (by kernel_rfl) (by kernel_rfl) (by kernel_rfl) (fun _ _ _ h => h) (Or.inr ⟨by rfl, rfl⟩) (by assumption) ?_
                  (try simp only [Act.put, List.setIfInBounds_toArray, List.set_cons_zero, List.set_cons_succ])
                  refine wpAnyH_take (i := 25) (oi := { dst := some 303, op := Go.Op.pick (Go.Operand.tmp 295) (Go.Operand.tmp 302) (Go.Operand.const (Go.Value.bool false)), type := 4, pos := "law.go:149", after := #[{ on := 17, ground := Go.Ground.data }, { on := 24, ground := Go.Ground.data }, { on := 8, ground := Go.Ground.guard }], guard := some (8, false) }) (v := undef) rfl (by kernel_rfl) (by kernel_rfl) (by kernel_rfl) (fun _ _ _ h => h) (Or.inr ⟨by rfl, rfl⟩) (by assumption) ?_
                  (try simp only [Act.put, List.setIfInBounds_toArray, List.set_cons_zero, List.set_cons_succ])
                  refine wpAnyH_take (i := 26) (oi := { dst := some 304, op := Go.Op.pick (Go.Operand.tmp 286) (Go.Operand.const (Go.Value.bool true)) (Go.Operand.tmp 303), type := 4, pos := "law.go:149", after := #[{ on := 8, ground := Go.Ground.data }, { on := 25, ground := Go.Ground.data }], guard := none }) (v := ?_) rfl (by kernel_rfl) (by kernel_rfl) (by kernel_rfl) (fun _ _ _ h => h) (Or.inl ⟨by rfl, ?_⟩) (by assumption) ?_
                  rotate_left
                  · intro w hSw
                    (try dsimp only at hSw)
                    go_simp
                    try with_reducible rfl
                  (try simp only [Act.put, List.setIfInBounds_toArray, List.set_cons_zero, List.set_cons_succ])
                  refine wpAnyH_take (i := 27) (oi := { dst := some 6, op := Go.Op.assign (Go.Operand.tmp 304), type := 4, pos := "law.go:149", after := #[{ on := 26, ground := Go.Ground.data }, { on := 24, ground := Go.Ground.chain }, { on := 0, ground := Go.Ground.phase }, { on := 1, ground := Go.Ground.phase }, { on := 2, ground := Go.Ground.phase }, { on := 3, ground := Go.Ground.phase }, { on := 4, ground := Go.Ground.phase }, { on := 5, ground := Go.Ground.phase }, { on := 6, ground := Go.Ground.phase }, { on := 7, ground := Go.Ground.phase }, { on := 8, ground := Go.Ground.phase }, { on := 9, ground := Go.Ground.phase }, { on := 10, ground := Go.Ground.phase }, { on := 11, ground := Go.Ground.phase }, { on := 12, ground := Go.Ground.phase }, { on := 13, ground := Go.Ground.phase }, { on := 14, ground := Go.Ground.phase }, { on := 15, ground := Go.Ground.phase }, { on := 16, ground := Go.Ground.phase }, { on := 17, ground := Go.Ground.phase }, { on := 18, ground := Go.Ground.phase }, { on := 19, ground := Go.Ground.phase }, { on := 20, ground := Go.Ground.phase }, { on := 21, ground := Go.Ground.phase }, { on := 22, ground := Go.Ground.phase }, { on := 23, ground := Go.Ground.phase }, { on := 24, ground := Go.Ground.phase }, { on := 25, ground := Go.Ground.phase }, { on := 26, ground := Go.Ground.phase }], guard := none }) (v := ?_) rfl (by kernel_rfl) (by kernel_rfl) (by kernel_rfl) (fun _ _ _ h => h) (Or.inl ⟨by rfl, ?_⟩) (by assumption) ?_
                  rotate_left
                  · intro w hSw
                    (try dsimp only at hSw)
                    go_simp
                    try with_reducible rfl
                  (try simp only [Act.put, List.setIfInBounds_toArray, List.set_cons_zero, List.set_cons_succ])
                  refine wpAnyH_done (by kernel_rfl) ?_ _
                  go_wp2
                  go_ret
                  exact ⟨rfl, below_drewN HBZ.out _⟩

set_option maxRecDepth 100000 in
/-- What the walk gives, for every argument: the row's own words. -/
theorem contract (H : Type) (enc : TypeId × Value → H) (W : World) (base : Nat) (args : Array Value) (ds gs : List (DataW H)) (before : List MemPlace)
    (hval : ∀ (j : Nat) t v, Try.f4.params[j]? = some t → args[j]? = some v → Value.okWide Try.prog W .any base t v)
    (hW : DataW.Whole enc Try.prog Try.f4.params.toList Rows.ringTurnsSpec.vars false W args.toList ds gs before) :
    Calls Try.prog 4 args W fun e W' => ∃ v, e = .returned v ∧ Rows.ringTurnsSpec.post enc Try.prog Try.f4 false true false false W args v W' := by
  have hW' := hW
  obtain ⟨p, q, hA0, hV, rfl, hfz, hnd⟩ := hW
  have hA : DataW.TrodAll enc Try.prog W 0 (fun _ => true) true Try.f4.params.toList args.toList ds p := hA0
  rw [Try.params4] at hA hval
  obtain ⟨v0, vs0, d0, ds0, p0, q0, hargs, rfl, rfl, h0, r0⟩ := trodAll_cons hA
  obtain ⟨v1, vs1, d1, ds1, p1, q1, rfl, rfl, rfl, h1, r1⟩ := trodAll_cons r0
  obtain ⟨v2, vs2, d2, ds2, p2, q2, rfl, rfl, rfl, h2, r2⟩ := trodAll_cons r1
  obtain ⟨rfl, rfl, rfl⟩ := trodAll_nil r2
  obtain rfl : args = #[v0, v1, v2] := by cases args; simp_all
  obtain ⟨a0, e0, rfl, c0⟩ := open_iw Try.underlying48 (by kernel_rfl) (by kernel_rfl) (by kernel_rfl) (by kernel_rfl) (hval 0 48 v0 rfl rfl) h0
  obtain ⟨l1, b1, c1⟩ := open_u64s Try.underlying23 Try.underlying22 (by kernel_rfl) (hval 1 23 v1 rfl rfl) h1
  obtain ⟨l2, b2, c2⟩ := open_i64s Try.underlying49 Try.underlying3 (by kernel_rfl) (hval 2 49 v2 rfl rfl) h2
  refine (walk W a0 e0 c0 v1 l1 b1 c1 v2 l2 b2 c2).mono fun e W' ⟨he, hb⟩ => ?_
  subst he
  exact close_true (by kernel_rfl) Try.underlying4 (by kernel_rfl) (by kernel_rfl) rfl rfl hW' hb

set_option maxRecDepth 100000 in
theorem lifted (os : Os) (started : os.Started) (H : Type) (enc : TypeId × Value → H) :
    ReturnsInHanded {} Try.checked os 4 .any (Rows.ringTurnsSpec.pre6 enc Try.prog Try.f4 Rows.ringTurnsRow.domain false) (Rows.ringTurnsSpec.post enc Try.prog Try.f4 false true false false) := by
  refine returnsInHanded_of_change (C := Try.checked) own started (by kernel_rfl) Try.func4
    (ChangeSpec.witness6 (enc := enc) (C := Try.checked) false ⟨#[], #[.agg #[.int .i64 0, .int .u64 0], .slice none 0 0, .slice none 0 0], []⟩ 8 (by kernel_rfl) (by kernel_rfl) (by kernel_rfl) (by kernel_rfl)) ?_
  intro W base args ds gs before hval hW _ _
  exact contract H enc W base args ds gs before hval hW

theorem proved : Rows.RingTurnsSaid :=
  OpenClaim.holds_of_wide 4 Try.f4 rfl rfl rfl rfl rfl rfl rfl ⟨rfl, rfl, rfl, rfl, rfl⟩ rfl rfl rfl rfl rfl (by kernel_rfl) Try.func4 (by kernel_rfl)
    (of_decide_eq_true (by kernel_rfl)) (by unfold Func.isWrapper; first | (rw [if_pos (by decide +kernel)]; kernel_rfl) | (rw [if_neg (by decide +kernel)]; exact ⟨rfl, rfl⟩))
    (fun os started H enc _ => lifted os started H enc)
#print axioms proved
end Go.Proofs.Ytjbdmifcdgllcaa.ringTurns
