/-
  Whoever stands still, behind however many steps, the other one's acts are over within eight steps each. No condition.
-/
import Derived.Test.YtfijjipdnejenaaRows
import Derived.Test.YtfijjipdnejenaaRgS
import Derived.Test.YtfijjipdnejenaaOpenU
import Derived.WalkKit
import Derived.ProofKit
import Derived.OpenShut
namespace Go.Proofs.Ytfijjipdnejenaa.ringStill
open Go.ChangeShapes Go.WideShapes Go.ChangeAt Go.RowKit
open Go.ChangeMaps (open_string)
set_option linter.unusedVariables false

theorem own : ownKnob Try.prog.godebug = none := by kernel_rfl
/-- What stands behind each round. -/
structure StillI (W wr : World) (b rb n p t : Nat) (g : RgS) (ql : List Int) (T : Int) : Prop where
  ring : RingAt wr W.heap.size b rb g
  rq : RngQ g p t ql
  sz : g.sz = n
  tm : g.m.t ≤ T
  bel : Below W.heap.size W wr
  pm : p ≤ 100

set_option maxRecDepth 100000 in
set_option maxHeartbeats 6400000 in
theorem walk (W : World) (a0 : Int) (e0 : Nat) (c0 : e0 < 18446744073709551616) (a1 : Bool) (a2 e2 : Int) :
    Calls Try.prog 6 #[.agg #[.int .i64 a0, .int .u64 (e0 : Int)], .bool a1, .agg #[.int .i64 a2, .int .i64 e2]] W (Says (.bool true) W) := by
  obtain ⟨q0, hq8, hqw⟩ := mod_u64 a0 8 (by omega) (by omega)
  have HQW : Hid (wrap64 ((IntKind.u64.wrap a0).tmod 8) = (q0 : Int)) := hqw
  obtain ⟨m1, hm8, hmw⟩ := mod_u64 e2 8 (by omega) (by omega)
  have HMW : Hid (wrap64 ((IntKind.u64.wrap e2).tmod 8) = (m1 : Int)) := hmw
  obtain ⟨n, hn⟩ : ∃ n, n = q0 + 1 := ⟨_, rfl⟩
  obtain ⟨n1, hn1'⟩ : ∃ n1, n1 = n + 1 := ⟨_, rfl⟩
  obtain ⟨J, hJn, hJw⟩ := mod_u64 a2 n1 (by omega) (by omega)
  have HJW := Lib.hid hJw
  clear hqw hmw hJw
  obtain ⟨C, hC⟩ : ∃ C, C = n + 2 := ⟨_, rfl⟩
  have HN1 : Hid (wrap64 (1 + (q0 : Int)) = (n : Int)) := (by show _ = _; rw [show 1 + (q0 : Int) = (n : Int) by omega]; exact IntWalk.wrap64_in _ (by omega))
  have HN2 : Hid (wrap64 ((n : Int) + 2) = (C : Int)) := (by show _ = _; rw [show (n : Int) + 2 = (C : Int) by omega]; exact IntWalk.wrap64_in _ (by omega))
  have HN3 : Hid (wrap64 ((n : Int) + 1) = (n1 : Int) ∧ IntKind.u64.wrap (n1 : Int) = (n1 : Int) ∧ (n1 : Int) ≠ 0) := ⟨(by rw [show (n : Int) + 1 = (n1 : Int) by omega]; exact IntWalk.wrap64_in _ (by omega)), (by rw [IntKind.wrap_u64]; omega), by omega⟩
  have HWK : Hid (∀ k : Nat, k < 100 → IntKind.u64.wrap (k : Int) = (k : Int)) := fun k hk => by rw [IntKind.wrap_u64]; omega
  have h8 : 1 ≤ n ∧ n ≤ 8 ∧ J ≤ n ∧ m1 < 8 := by omega
  have hC1 : 1 ≤ C ∧ C ≤ 1048576 := by omega
  have hC3 : 0 + 2 + n ≤ (newS C 0).C := by show 0 + 2 + n ≤ C; omega
  have ht0 : (newS C 0).t ≤ 4611686018427387900 := by show (0 : Int) ≤ _; omega
  have hq := newQ (s := newS C 0) (ba := 0) (sz := n) (st := (e0 : Int)) hC3 (by show C ≤ _; omega) h8.1 (by omega) (by omega) (by omega)
  have X0 := Lib.hid hq
  have HC := Lib.hid (And.intro hC1 (And.intro hC3 (And.intro ht0 (And.intro h8.1 (show n ≤ 64 by omega)))))
  have H8 := Lib.hid h8
  clear hq8 hn hn1' hC hC1 hC3 ht0 hq h8 hm8 hJn
  go_enter Try.func6, Try.ntmps6
  have hqw' := HQW.out
  have hn1 := HN1.out
  have hn5 := HN2.out
  go_wp2_with fail
  obtain ⟨W0, hW0⟩ : ∃ W0, W0 = (W.alloc (.cells #[.int .i64 a0, .int .u64 (e0 : Int)] 48)).alloc (.cells #[.int .i64 a2, .int .i64 e2] 51) := ⟨_, rfl⟩
  have HBW0 : Hid (Below W.heap.size W W0) := by rw [hW0]; exact ((Below.refl _ _).alloc (Nat.le_refl _) _).alloc (by simp) _
  have k0 : W0.cell? ⟨W.heap.size, 1, none⟩ = some (.int .u64 (e0 : Int)) := by rw [hW0]; simp [go_sem]
  have k1 : W0.cell? ⟨W.heap.size + 1, 0, none⟩ = some (.int .i64 a2) := by rw [hW0]; simp [go_sem]
  have k2 : W0.cell? ⟨W.heap.size + 1, 1, none⟩ = some (.int .i64 e2) := by rw [hW0]; simp [go_sem]
  have hWW : W.heap.size + 1 < W0.heap.size := by rw [hW0]; simp
  have hWX : W.heap.size < W0.heap.size := by omega
  rw [← hW0]
  clear hW0
  simp only [hqw', hn1, hn5]
  refine (mem_New C 0 HC.out.1 (Nat.zero_le _) _).mono ?_
  rintro e w1 ⟨b, rfl, hm, hb⟩
  have M1 := Lib.hid hm
  have B1 := Lib.hid hb
  have kk := (hb.cell (p := ⟨W.heap.size, 1, none⟩) hWX).trans k0
  clear hm hb hqw' hn1 hn5
  go_wp2_with fail
  refine (ring_New M1.out HC.out.2.2.1 0 n HC.out.2.1 HC.out.2.2.2.1 HC.out.2.2.2.2 (e0 : Int)).mono ?_
  rintro e w2 ⟨rb, rfl, hr, hle, htt⟩
  have hq := X0.out
  obtain ⟨G0, hG0⟩ : ∃ G, G = newR (newS C 0) 0 n (e0 : Int) := ⟨_, rfl⟩
  rw [← hG0] at hr hq
  have HG : Hid (G0.pu = false ∧ G0.po = false ∧ G0.sz = n ∧ G0.m.t = 2) := by rw [hG0]; exact ⟨rfl, rfl, rfl, rfl⟩
  have R2 := Lib.hid hr
  have X2 := Lib.hid hq
  have B2 := Lib.hid (htt.below B1.out (Nat.le_refl _) B1.out.size)
  clear hr hq htt hle hG0 M1 B1 kk
  go_wp2_with fail
  refine (told14 _).mono ?_
  rintro e w3 ⟨rfl, hb⟩
  have B3 := Lib.hid (B2.out.trans (hb.mono B2.out.size))
  have R3 := Lib.hid (R2.out.below hb)
  clear hb R2 B2
  go_wp2
  go_loopw [12] (fun i wr => ∃ k : Nat, k ≤ J ∧ i = .int .i64 k ∧ Hid (∃ g ql, StillI W0 wr b rb n k 0 g ql (10 + 8 * (k : Int)) ∧ g.pu = false ∧ g.po = false ∧ ql.length = k)) (fun i _ => J - (intOf i).toNat)
  case atStart => exact ⟨0, by omega, rfl, G0, [], ⟨R3.out, X2.out, HG.out.2.2.1, by rw [HG.out.2.2.2]; decide, B3.out, by omega⟩, HG.out.1, HG.out.2.1, rfl⟩
  case round =>
    obtain ⟨k, hk, rfl, HK⟩ := hrel
    clear R3 X2 X0 HG B3 HC
    have g0 : (0 : Int) ≤ (k : Int) := Int.natCast_nonneg _
    obtain ⟨g, ql, hS, hpu, hpo, hlen⟩ := HK.out
    have HS := Lib.hid hS
    have hcs := (hS.bel.cell (p := ⟨W.heap.size + 1, 0, none⟩) hWW).trans k1
    clear HK hS
    by_cases hlt : k < J
    · have g1 : (k : Int) < (J : Int) := by omega
      have g2 : (k : Int) < 100 := by have := H8.out; omega
      have hWk := HWK.out k (by have := H8.out; omega)
      have hln : ql.length < n := by have := H8.out; omega
      have HLN := Lib.hid hln
      have HLE := Lib.hid hlen
      have hjw := HJW.out
      obtain ⟨hn3, hn4, hn5⟩ := HN3.out
      clear hln hlen
      go_wp2_with fail
      clear hjw hn3 hn4 hn5
      refine (ring_Push HS.out.ring hpu (k : Int)).mono ?_
      rintro e w4 ⟨rfl, hr, ha, ht⟩
      have hz7 := ha.lt
      have hrl := HS.out.ring.lt
      have hrl2 := HS.out.ring.out
      have hwz := HS.out.bel.size
      have B7 := Lib.hid (ht.below HS.out.bel (fun j hj => by omega) hwz)
      have R7 := Lib.hid hr
      obtain ⟨ac, hac0⟩ : ∃ ac, ac = wr.heap.size := ⟨_, rfl⟩
      rw [← hac0] at ha hz7 ⊢
      have A7 := Lib.hid ha
      have hac : rb < ac := by omega
      clear hr ha ht hac0 hWk
      go_wp2_with fail
      refine (finish_push R7.out A7.out (by omega) (by omega) (by have := HS.out.tm; have := H8.out; omega) HS.out.rq (by have := H8.out; omega)).mono ?_
      rintro e w8 ⟨g8, a8, p8, rfl, hr, ha, ht, hl, hpu8, hpo8, hok, hval, hrq, hp8, hor⟩
      have hok' : a8.ok = true := by rw [hok]; exact decide_eq_true (by rw [HS.out.sz]; exact HLN.out)
      have hp8' : p8 = k + 1 := by
        rcases hor with ⟨_, e, _⟩ | ⟨e, _⟩
        · exact e
        · rw [hok'] at e; simp at e
      subst hp8'
      rw [if_pos (by rw [HS.out.sz]; exact HLN.out)] at hrq
      have HN8 : Hid (StillI W0 w8 b rb n (k + 1) 0 g8 (ql ++ [(k : Int)]) (10 + 8 * ((k + 1 : Nat) : Int)) ∧ g8.pu = false ∧ g8.po = false ∧ (ql ++ [(k : Int)]).length = k + 1) := ⟨⟨hr, hrq, hl.sz.trans HS.out.sz, by have := hl.t2; have := HS.out.tm; have := H8.out; omega, ht.below B7.out (fun j hj => by unfold RingD at hj; omega) B7.out.size, by have := H8.out; omega⟩, hpu8, hpo8.trans hpo, by have := HLE.out; simp; omega⟩
      clear hr ha ht hl hpu8 hpo8 hok hok' hval hrq hp8 hor hpu hpo R7 A7 B7
      go_wp2
      go_roundw
      case rel => exact ⟨k + 1, by omega, by go_num, g8, _, HN8.out⟩
      case measure => simp [intOf]; omega
    · have : k = J := by omega
      subst this
      have HLN := ring_Len HS.out.ring HS.out.rq
      rw [hlen] at HLN
      have HLN := Lib.hid HLN
      have HP := Lib.hid (And.intro hpu (And.intro hpo hlen))
      have hjw := HJW.out
      obtain ⟨hn3, hn4, hn5⟩ := HN3.out
      clear hlt hpu hpo hlen
      go_wp2_with fail
      clear hjw hn3 hn4 hn5
      refine (HLN.out).mono ?_
      rintro e w4 ⟨rfl, mq, rfl⟩
      have R4 := Lib.hid (HS.out.ring.below (below_drewN (Below.refl _ _) mq))
      have B4 := Lib.hid (below_drewN HS.out.bel mq)
      have X4 := Lib.hid HS.out.rq
      have P4 : Hid (g.pu = false ∧ g.po = false ∧ g.sz = n ∧ g.m.t ≤ 90 ∧ k ≤ 8) := ⟨HP.out.1, HP.out.2.1, HS.out.sz, by have := HS.out.tm; have := H8.out; omega, by have := H8.out; omega⟩
      have HL4 := Lib.hid HP.out.2.2
      obtain ⟨w4, hw4⟩ : ∃ w4, w4 = wr.drewN mq := ⟨_, rfl⟩
      rw [← hw4] at R4 B4 ⊢
      obtain ⟨g4, hg4⟩ : ∃ g4, g4 = g := ⟨_, rfl⟩
      rw [← hg4] at R4 X4 P4
      have hmw' := HMW.out
      clear hw4 hg4 HS HP HLN hcs hk
      cases a1
      · go_wp2_with fail
        refine (ring_Pop R4.out P4.out.2.1).mono ?_
        rintro e w5 ⟨rfl, hr, ha, ht⟩
        have hz5 := ha.lt
        have hz4 := ht.size
        have hr4 := R4.out.lt
        have hlo4 := R4.out.out
        have B5 := Lib.hid (ht.below B4.out (fun j hj => by omega) B4.out.size)
        have R5 := Lib.hid hr
        obtain ⟨ab, hab0⟩ : ∃ ab, ab = w4.heap.size := ⟨_, rfl⟩
        rw [← hab0] at ha hz5 ⊢
        have A5 := Lib.hid ha
        have hab : rb < ab := by omega
        have HSTP := Lib.hid (still_pop m1 (X4.out.po true) (popK0 _ _ _))
        have HANY := Lib.hid (fun m : Nat => iter_any m ({ g4 with po := true }, ⟨false, 1, 0, 0, false, 0⟩) (by show 1 ≤ 4; omega))
        have HADD := Lib.hid (fun m : Nat => iterR_add 1 m ({ g4 with po := true }, (⟨false, 1, 0, 0, false, 0⟩ : AcS)))
        obtain ⟨x0, hx0⟩ : ∃ x0, x0 = (({ g4 with po := true }, ⟨false, 1, 0, 0, false, 0⟩) : RgS × AcS) := ⟨_, rfl⟩
        have R5' : Hid (RingAt w5 W0.heap.size b rb (iterR 0 x0).1) := by rw [hx0]; exact R5.out
        have A5' : Hid (ActAt w5 rb ab (iterR 0 x0).2) := by rw [hx0]; exact A5.out
        have ht5 : x0.1.m.t = g4.m.t := by rw [hx0]
        have HT5 : Hid (x0.1.m.t ≤ 100) := by have := P4.out.2.2.2.1; show _ ≤ _; omega
        rw [← hx0] at HSTP HADD HANY
        have hx2 : g4.pu = false ∧ g4.sz = n := ⟨P4.out.1, P4.out.2.2.1⟩
        have HX0 := Lib.hid hx2
        have hcs2 := B5.out.cell (p := ⟨W.heap.size + 1, 1, none⟩) hWW
        clear hr ha ht hab0 R4 R5 A5 P4 B4 hx0 ht5 hx2 hcs2
        go_wp2
        clear hmw'
        go_loopw [15] (fun i wr => ∃ m : Nat, m ≤ m1 ∧ i = .int .i64 m ∧ Hid (RingAt wr W0.heap.size b rb (iterR m x0).1 ∧ ActAt wr rb ab (iterR m x0).2) ∧ Hid (Below W0.heap.size W0 wr)) (fun i _ => m1 - (intOf i).toNat)
        case atStart => exact ⟨0, by omega, rfl, ⟨R5'.out, A5'.out⟩, B5.out⟩
        case round =>
          obtain ⟨m, hm, rfl, HR, HB⟩ := hrel
          clear R5' A5' B5
          have g0 : (0 : Int) ≤ (m : Int) := Int.natCast_nonneg _
          have hcs := (HB.out.cell (p := ⟨W.heap.size + 1, 1, none⟩) hWW).trans k2
          by_cases hlt : m < m1
          · have g1 : (m : Int) < (m1 : Int) := by omega
            have g2 : (m : Int) < 100 := by have := H8.out; omega
            have hst4 := (HANY.out m).1
            have htm := (HANY.out m).2
            have HSP := Lib.hid (act_Step HR.out.1 HR.out.2 (by have := HR.out.1.out; omega) (by omega) (by have := HT5.out; have := H8.out; omega) hst4)
            have HAD := Lib.hid (HADD.out m)
            have hbs := HB.out.size
            have HAR := Lib.hid HR.out.1.out
            clear hst4 htm HR
            have hmw' := HMW.out
            go_wp2_with fail
            refine (HSP.out).mono ?_
            rintro e w6 ⟨rfl, hr6, ha6, ht6⟩
            clear hmw'
            have HX6 : Hid (RingAt w6 W0.heap.size b rb (iterR (m + 1) x0).1 ∧ ActAt w6 rb ab (iterR (m + 1) x0).2) := by rw [HAD.out]; exact ⟨hr6, ha6⟩
            have HB6 := Lib.hid (ht6.below HB.out (fun j hj => by unfold RingD at hj; have := HAR.out; omega) hbs)
            clear hr6 ha6 ht6
            go_wp2
            go_roundw
            case rel => exact ⟨m + 1, by omega, by go_num, HX6.out, HB6.out⟩
            case measure => simp [intOf]; omega
          · have : m1 = m := by omega
            subst this
            clear hlt hm
            obtain ⟨hfl, hsz, hq⟩ := HSTP.out
            have htm := (HANY.out m1).2
            have HT6 : Hid ((iterR m1 x0).1.m.t ≤ 110) := by have := HT5.out; have := H8.out; show _ ≤ _; omega
            have R6 := Lib.hid HR.out.1
            have P6 : Hid ((iterR m1 x0).1.pu = false ∧ (iterR m1 x0).1.sz = n) := ⟨hfl.trans HX0.out.1, hsz.trans HX0.out.2⟩
            obtain ⟨g6, hg6⟩ : ∃ g6, g6 = (iterR m1 x0).1 := ⟨_, rfl⟩
            rw [← hg6] at R6 P6 HT6 hq
            obtain ⟨t6, q6, hq6, hl6⟩ := hq
            have X6 := Lib.hid hq6
            have HP6 : Hid (k ≤ 20) := by have := H8.out; show _ ≤ _; omega
            have hq1 : q6.length = k ∨ q6.length + 1 = k := by rw [HL4.out] at hl6; exact hl6
            have HQ1 : Hid (q6.length ≤ n) := by have := hq6.len; have := hq6.room; have := P6.out.2; show _ ≤ _; omega
            have HJ6 := Lib.hid hq1
            have hmw' := HMW.out
            clear hg6 hq6 hl6 hfl hsz htm HR HSTP HANY HADD HX0 HT5 hq1
            go_wp2
            clear hmw'
            go_loopw [16, 17] (fun o i wr => ∃ k got : Nat, k ≤ 12 ∧ i = .int .i64 k ∧ o = .int .i64 got ∧ Hid (∃ p t g q, StillI W0 wr b rb n p t g q (110 + 8 * (k : Int)) ∧ g.pu = false ∧ p ≤ 20 + k ∧ got + q6.length = q.length ∧ q.length = min (q6.length + k) n)) (fun _ i _ => 12 - (intOf i).toNat)
            case atStart => exact ⟨0, 0, by omega, rfl, rfl, k, t6, g6, q6, ⟨R6.out, X6.out, P6.out.2, by have := HT6.out; omega, HB.out, by have := HP6.out; omega⟩, P6.out.1, by have := HP6.out; omega, by omega, by have := HQ1.out; omega⟩
            case round =>
              obtain ⟨k, got, hk, rfl, rfl, HK⟩ := hrel
              clear R6 X6 HB
              have g0 : (0 : Int) ≤ (k : Int) := Int.natCast_nonneg _
              by_cases hlt : k < 12
              · have g1 : (k : Int) < 12 := by omega
                obtain ⟨p, t, g, q, hS, hfl, hpk, hgot, hlen⟩ := HK.out
                have HS := Lib.hid hS
                have HGL := Lib.hid (And.intro hgot (And.intro hlen hpk))
                have hWk := HWK.out k (by omega)
                have hgotb : got ≤ 20 := by have := HQ1.out; have := H8.out; omega
                have hgw : wrap64 ((got : Int) + 1) = ((got + 1 : Nat) : Int) := by rw [show (got : Int) + 1 = ((got + 1 : Nat) : Int) by omega]; exact IntWalk.wrap64_in _ (by omega)
                have HGW := Lib.hid hgw
                clear hgw hgot hlen hpk hS HK
                go_wp2_with fail
                refine (ring_Push HS.out.ring hfl (k : Int)).mono ?_
                rintro e w7 ⟨rfl, hr, ha, ht⟩
                have hz7 := ha.lt
                have hrl := HS.out.ring.lt
                have hrl2 := HS.out.ring.out
                have hwz := HS.out.bel.size
                have B7 := Lib.hid (ht.below HS.out.bel (fun j hj => by omega) hwz)
                have R7 := Lib.hid hr
                obtain ⟨ac, hac0⟩ : ∃ ac, ac = wr.heap.size := ⟨_, rfl⟩
                rw [← hac0] at ha hz7 ⊢
                have A7 := Lib.hid ha
                have hac : rb < ac := by omega
                clear hr ha ht hac0 hWk
                go_wp2_with fail
                refine (finish_push R7.out A7.out (by omega) (by omega) (by have := HS.out.tm; have := H8.out; omega) HS.out.rq (by have := HGL.out.2.2; omega)).mono ?_
                rintro e w8 ⟨g8, a8, p8, rfl, hr, ha, ht, hl, hpu, hpo, hok, hval, hrq, hp8, _⟩
                have HN8 : Hid (StillI W0 w8 b rb n p8 t g8 (if q.length < g.sz then q ++ [(k : Int)] else q) (110 + 8 * ((k + 1 : Nat) : Int)) ∧ g8.pu = false ∧ p8 ≤ 20 + (k + 1)) := ⟨⟨hr, hrq, hl.sz.trans HS.out.sz, by have := hl.t2; have := HS.out.tm; have := H8.out; omega, ht.below B7.out (fun j hj => by unfold RingD at hj; omega) B7.out.size, by have := HGL.out.2.2; omega⟩, hpu, by have := HGL.out.2.2; omega⟩
                have HOK := act_Ok ha
                rw [hok, HS.out.sz] at HOK
                rw [HS.out.sz] at HN8
                by_cases hqn : q.length < n
                · rw [decide_eq_true hqn] at HOK
                  rw [if_pos hqn] at HN8
                  have HOK := Lib.hid HOK
                  have hqt : (q ++ [(k : Int)]).length = q.length + 1 := by simp
                  have HG2 : Hid (got + 1 + q6.length = (q ++ [(k : Int)]).length ∧ (q ++ [(k : Int)]).length = min (q6.length + (k + 1)) n) := by have := HGL.out; show _ ∧ _; omega
                  clear hr ha ht hl hpu hpo hok hval hrq hqn hqt hp8 R7 A7 B7 hfl
                  go_wp2_with fail
                  refine (HOK.out).mono ?_
                  rintro e w9 ⟨rfl, rfl⟩
                  have hgw := HGW.out
                  go_wp2
                  go_roundw
                  case rel => exact ⟨k + 1, got + 1, by omega, by go_num, by first | rfl | (rw [hgw]), p8, t, g8, _, HN8.out.1, HN8.out.2.1, HN8.out.2.2, HG2.out.1, HG2.out.2⟩
                  case measure => simp [intOf]; omega
                · rw [decide_eq_false hqn] at HOK
                  rw [if_neg hqn] at HN8
                  have HOK := Lib.hid HOK
                  have HG2 : Hid (got + q6.length = q.length ∧ q.length = min (q6.length + (k + 1)) n) := by have := HGL.out; show _ ∧ _; omega
                  clear hr ha ht hl hpu hpo hok hval hrq hqn hp8 R7 A7 B7 hfl
                  go_wp2_with fail
                  refine (HOK.out).mono ?_
                  rintro e w9 ⟨rfl, rfl⟩
                  go_wp2
                  go_roundw
                  case rel => exact ⟨k + 1, got, by omega, by go_num, rfl, p8, t, g8, _, HN8.out.1, HN8.out.2.1, HN8.out.2.2, HG2.out.1, HG2.out.2⟩
                  case measure => simp [intOf]; omega
              · have hk12 : k = 12 := by omega
                subst hk12
                obtain ⟨p, t, g, q, hS, hfl, hpk, hgot, hlen⟩ := HK.out
                have HBL := Lib.hid (HBW0.out.trans (hS.bel.mono HBW0.out.size))
                have hg : (got : Int) = (n : Int) - (k : Int) ∨ ((got : Int) ≠ (n : Int) - (k : Int) ∧ (got : Int) = (n : Int) - (k : Int) + 1) := by have := HJ6.out; have := HQ1.out; have := H8.out; omega
                have HWJ : wrap64 ((n : Int) - (k : Int)) = (n : Int) - (k : Int) := IntWalk.wrap64_in _ (by have := H8.out; omega)
                have HWJ2 : wrap64 ((n : Int) - (k : Int) + 1) = (n : Int) - (k : Int) + 1 := IntWalk.wrap64_in _ (by have := H8.out; omega)
                clear HK hS hfl hpk hgot hlen hlt
                rcases hg with hg | ⟨hg, hg2⟩
                · have d1 : ((got : Int) == ((n : Int) - (k : Int))) = true := by rw [hg]; simp
                  clear hg
                  go_wp2
                  go_ret
                  exact ⟨by first | rfl | (simp; done), HBL.out⟩
                · have d1 : ((got : Int) == ((n : Int) - (k : Int))) = false := by simpa using hg
                  have d2 : ((got : Int) == ((n : Int) - (k : Int)) + 1) = true := by rw [hg2]; simp
                  clear hg hg2
                  go_wp2
                  go_ret
                  exact ⟨by first | rfl | (simp; done), HBL.out⟩
      · go_wp2_with fail
        refine (ring_Push R4.out P4.out.1 99).mono ?_
        rintro e w5 ⟨rfl, hr, ha, ht⟩
        have hz5 := ha.lt
        have hz4 := ht.size
        have hr4 := R4.out.lt
        have hlo4 := R4.out.out
        have B5 := Lib.hid (ht.below B4.out (fun j hj => by omega) B4.out.size)
        have R5 := Lib.hid hr
        obtain ⟨ab, hab0⟩ : ∃ ab, ab = w4.heap.size := ⟨_, rfl⟩
        rw [← hab0] at ha hz5 ⊢
        have A5 := Lib.hid ha
        have hab : rb < ab := by omega
        have HSTP := Lib.hid (still_push m1 (X4.out.pu true) (pushK0 _ _ _ 99) (by have := P4.out.2.2.2.2; omega))
        have HANY := Lib.hid (fun m : Nat => iter_any m ({ g4 with pu := true }, ⟨true, 1, 0, 99, false, 0⟩) (by show 1 ≤ 4; omega))
        have HADD := Lib.hid (fun m : Nat => iterR_add 1 m ({ g4 with pu := true }, (⟨true, 1, 0, 99, false, 0⟩ : AcS)))
        obtain ⟨x0, hx0⟩ : ∃ x0, x0 = (({ g4 with pu := true }, ⟨true, 1, 0, 99, false, 0⟩) : RgS × AcS) := ⟨_, rfl⟩
        have R5' : Hid (RingAt w5 W0.heap.size b rb (iterR 0 x0).1) := by rw [hx0]; exact R5.out
        have A5' : Hid (ActAt w5 rb ab (iterR 0 x0).2) := by rw [hx0]; exact A5.out
        have ht5 : x0.1.m.t = g4.m.t := by rw [hx0]
        have HT5 : Hid (x0.1.m.t ≤ 100) := by have := P4.out.2.2.2.1; show _ ≤ _; omega
        rw [← hx0] at HSTP HADD HANY
        have hx2 : g4.po = false ∧ g4.sz = n := ⟨P4.out.2.1, P4.out.2.2.1⟩
        have HX0 := Lib.hid hx2
        have hcs2 := B5.out.cell (p := ⟨W.heap.size + 1, 1, none⟩) hWW
        clear hr ha ht hab0 R4 R5 A5 P4 B4 hx0 ht5 hx2 hcs2
        go_wp2
        clear hmw'
        go_loopw [15] (fun i wr => ∃ m : Nat, m ≤ m1 ∧ i = .int .i64 m ∧ Hid (RingAt wr W0.heap.size b rb (iterR m x0).1 ∧ ActAt wr rb ab (iterR m x0).2) ∧ Hid (Below W0.heap.size W0 wr)) (fun i _ => m1 - (intOf i).toNat)
        case atStart => exact ⟨0, by omega, rfl, ⟨R5'.out, A5'.out⟩, B5.out⟩
        case round =>
          obtain ⟨m, hm, rfl, HR, HB⟩ := hrel
          clear R5' A5' B5
          have g0 : (0 : Int) ≤ (m : Int) := Int.natCast_nonneg _
          have hcs := (HB.out.cell (p := ⟨W.heap.size + 1, 1, none⟩) hWW).trans k2
          by_cases hlt : m < m1
          · have g1 : (m : Int) < (m1 : Int) := by omega
            have g2 : (m : Int) < 100 := by have := H8.out; omega
            have hst4 := (HANY.out m).1
            have htm := (HANY.out m).2
            have HSP := Lib.hid (act_Step HR.out.1 HR.out.2 (by have := HR.out.1.out; omega) (by omega) (by have := HT5.out; have := H8.out; omega) hst4)
            have HAD := Lib.hid (HADD.out m)
            have hbs := HB.out.size
            have HAR := Lib.hid HR.out.1.out
            clear hst4 htm HR
            have hmw' := HMW.out
            go_wp2_with fail
            refine (HSP.out).mono ?_
            rintro e w6 ⟨rfl, hr6, ha6, ht6⟩
            clear hmw'
            have HX6 : Hid (RingAt w6 W0.heap.size b rb (iterR (m + 1) x0).1 ∧ ActAt w6 rb ab (iterR (m + 1) x0).2) := by rw [HAD.out]; exact ⟨hr6, ha6⟩
            have HB6 := Lib.hid (ht6.below HB.out (fun j hj => by unfold RingD at hj; have := HAR.out; omega) hbs)
            clear hr6 ha6 ht6
            go_wp2
            go_roundw
            case rel => exact ⟨m + 1, by omega, by go_num, HX6.out, HB6.out⟩
            case measure => simp [intOf]; omega
          · have : m1 = m := by omega
            subst this
            clear hlt hm
            obtain ⟨hfl, hsz, hq⟩ := HSTP.out
            have htm := (HANY.out m1).2
            have HT6 : Hid ((iterR m1 x0).1.m.t ≤ 110) := by have := HT5.out; have := H8.out; show _ ≤ _; omega
            have R6 := Lib.hid HR.out.1
            have P6 : Hid ((iterR m1 x0).1.po = false ∧ (iterR m1 x0).1.sz = n) := ⟨hfl.trans HX0.out.1, hsz.trans HX0.out.2⟩
            obtain ⟨g6, hg6⟩ : ∃ g6, g6 = (iterR m1 x0).1 := ⟨_, rfl⟩
            rw [← hg6] at R6 P6 HT6 hq
            obtain ⟨p6, q6, hp6, hq6, hl6⟩ := hq
            have X6 := Lib.hid hq6
            have HP6 : Hid (p6 ≤ 20) := by have := H8.out; show _ ≤ _; omega
            have hq1 : q6.length = k ∨ q6.length = k + 1 := by rw [HL4.out] at hl6; exact hl6
            have t6 : Nat := 0
            have HQ1 : Hid (q6.length ≤ n) := by have := hq6.len; have := hq6.room; have := P6.out.2; show _ ≤ _; omega
            have HJ6 := Lib.hid hq1
            have hmw' := HMW.out
            clear hg6 hq6 hl6 hfl hsz htm HR HSTP HANY HADD HX0 HT5 hq1
            go_wp2
            clear hmw'
            go_loopw [16, 17] (fun o i wr => ∃ k got : Nat, k ≤ 12 ∧ i = .int .i64 k ∧ o = .int .i64 got ∧ Hid (∃ p t g q, StillI W0 wr b rb n p t g q (110 + 8 * (k : Int)) ∧ g.po = false ∧ p ≤ 20 + k ∧ got + q.length = q6.length ∧ q.length = q6.length - k)) (fun _ i _ => 12 - (intOf i).toNat)
            case atStart => exact ⟨0, 0, by omega, rfl, rfl, p6, _, g6, q6, ⟨R6.out, X6.out, P6.out.2, by have := HT6.out; omega, HB.out, by have := HP6.out; omega⟩, P6.out.1, by have := HP6.out; omega, by omega, by have := HQ1.out; omega⟩
            case round =>
              obtain ⟨k, got, hk, rfl, rfl, HK⟩ := hrel
              clear R6 X6 HB
              have g0 : (0 : Int) ≤ (k : Int) := Int.natCast_nonneg _
              by_cases hlt : k < 12
              · have g1 : (k : Int) < 12 := by omega
                obtain ⟨p, t, g, q, hS, hfl, hpk, hgot, hlen⟩ := HK.out
                have HS := Lib.hid hS
                have HGL := Lib.hid (And.intro hgot (And.intro hlen hpk))
                have hWk := HWK.out k (by omega)
                have hgotb : got ≤ 20 := by have := HQ1.out; have := H8.out; omega
                have hgw : wrap64 ((got : Int) + 1) = ((got + 1 : Nat) : Int) := by rw [show (got : Int) + 1 = ((got + 1 : Nat) : Int) by omega]; exact IntWalk.wrap64_in _ (by omega)
                have HGW := Lib.hid hgw
                clear hgw hgot hlen hpk hS HK
                go_wp2_with fail
                refine (ring_Pop HS.out.ring hfl).mono ?_
                rintro e w7 ⟨rfl, hr, ha, ht⟩
                have hz7 := ha.lt
                have hrl := HS.out.ring.lt
                have hrl2 := HS.out.ring.out
                have hwz := HS.out.bel.size
                have B7 := Lib.hid (ht.below HS.out.bel (fun j hj => by omega) hwz)
                have R7 := Lib.hid hr
                obtain ⟨ac, hac0⟩ : ∃ ac, ac = wr.heap.size := ⟨_, rfl⟩
                rw [← hac0] at ha hz7 ⊢
                have A7 := Lib.hid ha
                have hac : rb < ac := by omega
                clear hr ha ht hac0 hWk
                go_wp2_with fail
                refine (finish_pop R7.out A7.out (by omega) (by omega) (by have := HS.out.tm; have := H8.out; omega) HS.out.rq).mono ?_
                rintro e w8 ⟨g8, a8, t8, rfl, hr, ha, ht, hl, hpu, hpo, hok, hval, hrq, _⟩
                have HN8 : Hid (StillI W0 w8 b rb n p t8 g8 q.tail (110 + 8 * ((k + 1 : Nat) : Int)) ∧ g8.po = false) := ⟨⟨hr, hrq, hl.sz.trans HS.out.sz, by have := hl.t2; have := HS.out.tm; have := H8.out; omega, ht.below B7.out (fun j hj => by unfold RingD at hj; omega) B7.out.size, HS.out.pm⟩, hpo⟩
                have HOK := act_Ok ha
                rw [hok] at HOK
                have hqt : q.tail.length = q.length - 1 := by simp
                cases hqe : q.isEmpty
                · have hqn : 0 < q.length := by cases q with | nil => simp at hqe | cons => simp
                  rw [hqe] at HOK
                  have HOK : Hid (Calls Try.prog 18 #[.pointer (some ⟨ac, 0, none⟩)] w8 fun e w' => e = .returned (.bool true) ∧ w8 = w') := HOK
                  have HG2 : Hid (got + 1 + q.tail.length = q6.length ∧ q.tail.length = q6.length - (k + 1)) := by have := HGL.out; show _ ∧ _; omega
                  clear hr ha ht hl hpu hpo hok hval hrq hqe hqn hqt R7 A7 B7 hfl
                  go_wp2_with fail
                  refine (HOK.out).mono ?_
                  rintro e w9 ⟨rfl, rfl⟩
                  have hgw := HGW.out
                  go_wp2
                  go_roundw
                  case rel => exact ⟨k + 1, got + 1, by omega, by go_num, by first | rfl | (rw [hgw]), p, t8, g8, q.tail, HN8.out.1, HN8.out.2, by have := HGL.out.2.2; omega, HG2.out.1, HG2.out.2⟩
                  case measure => simp [intOf]; omega
                · have hqn : q.length = 0 := by cases q with | nil => rfl | cons => simp at hqe
                  rw [hqe] at HOK
                  have HOK : Hid (Calls Try.prog 18 #[.pointer (some ⟨ac, 0, none⟩)] w8 fun e w' => e = .returned (.bool false) ∧ w8 = w') := HOK
                  have HG2 : Hid (got + q.tail.length = q6.length ∧ q.tail.length = q6.length - (k + 1)) := by have := HGL.out; show _ ∧ _; omega
                  clear hr ha ht hl hpu hpo hok hval hrq hqe hqn hqt R7 A7 B7 hfl
                  go_wp2_with fail
                  refine (HOK.out).mono ?_
                  rintro e w9 ⟨rfl, rfl⟩
                  go_wp2
                  go_roundw
                  case rel => exact ⟨k + 1, got, by omega, by go_num, rfl, p, t8, g8, q.tail, HN8.out.1, HN8.out.2, by have := HGL.out.2.2; omega, HG2.out.1, HG2.out.2⟩
                  case measure => simp [intOf]; omega
              · have hk12 : k = 12 := by omega
                subst hk12
                obtain ⟨p, t, g, q, hS, hfl, hpk, hgot, hlen⟩ := HK.out
                have HBL := Lib.hid (HBW0.out.trans (hS.bel.mono HBW0.out.size))
                have hg : (got : Int) = (k : Int) ∨ ((got : Int) ≠ (k : Int) ∧ (got : Int) = (k : Int) + 1) := by have := HJ6.out; have := HQ1.out; have := H8.out; omega
                have HWJ : wrap64 ((k : Int) + 1) = (k : Int) + 1 := IntWalk.wrap64_in _ (by have := H8.out; omega)
                clear HK hS hfl hpk hgot hlen hlt
                rcases hg with hg | ⟨hg, hg2⟩
                · have d1 : ((got : Int) == (k : Int)) = true := by rw [hg]; simp
                  clear hg
                  go_wp2
                  go_ret
                  exact ⟨by first | rfl | (simp; done), HBL.out⟩
                · have d1 : ((got : Int) == (k : Int)) = false := by simpa using hg
                  have d2 : ((got : Int) == (k : Int) + 1) = true := by rw [hg2]; simp
                  clear hg hg2
                  go_wp2
                  go_ret
                  exact ⟨by first | rfl | (simp; done), HBL.out⟩

set_option maxRecDepth 100000 in
/-- What the walk gives, for every argument: the row's own words. -/
theorem contract (H : Type) (enc : TypeId × Value → H) (W : World) (base : Nat) (args : Array Value) (ds gs : List (DataW H)) (before : List MemPlace)
    (hval : ∀ (j : Nat) t v, Try.f6.params[j]? = some t → args[j]? = some v → Value.okWide Try.prog W .any base t v)
    (hW : DataW.Whole enc Try.prog Try.f6.params.toList Rows.ringStillSpec.vars false W args.toList ds gs before) :
    Calls Try.prog 6 args W fun e W' => ∃ v, e = .returned v ∧ Rows.ringStillSpec.post enc Try.prog Try.f6 false true false false W args v W' := by
  have hW' := hW
  obtain ⟨p, q, hA0, hV, rfl, hfz, hnd⟩ := hW
  have hA : DataW.TrodAll enc Try.prog W 0 (fun _ => true) true Try.f6.params.toList args.toList ds p := hA0
  rw [Try.params6] at hA hval
  obtain ⟨v0, vs0, d0, ds0, p0, q0, hargs, rfl, rfl, h0, r0⟩ := trodAll_cons hA
  obtain ⟨v1, vs1, d1, ds1, p1, q1, rfl, rfl, rfl, h1, r1⟩ := trodAll_cons r0
  obtain ⟨v2, vs2, d2, ds2, p2, q2, rfl, rfl, rfl, h2, r2⟩ := trodAll_cons r1
  obtain ⟨rfl, rfl, rfl⟩ := trodAll_nil r2
  obtain rfl : args = #[v0, v1, v2] := by cases args; simp_all
  obtain ⟨a0, e0, rfl, c0⟩ := open_iw Try.underlying48 (by kernel_rfl) (by kernel_rfl) (by kernel_rfl) (by kernel_rfl) (hval 0 48 v0 rfl rfl) h0
  obtain ⟨a1, rfl, _, _⟩ := open_bool Try.underlying4 (hval 1 4 v1 rfl rfl) h1
  obtain ⟨a2, e2, rfl⟩ := open_arr2 Try.underlying51 Try.underlying3 (by kernel_rfl) (by kernel_rfl) (hval 2 51 v2 rfl rfl) h2
  refine (walk W a0 e0 c0 a1 a2 e2).mono fun e W' ⟨he, hb⟩ => ?_
  subst he
  exact close_true (by kernel_rfl) Try.underlying4 (by kernel_rfl) (by kernel_rfl) rfl rfl hW' hb

set_option maxRecDepth 100000 in
theorem lifted (os : Os) (started : os.Started) (H : Type) (enc : TypeId × Value → H) :
    ReturnsInHanded {} Try.checked os 6 .any (Rows.ringStillSpec.pre6 enc Try.prog Try.f6 Rows.ringStillRow.domain false) (Rows.ringStillSpec.post enc Try.prog Try.f6 false true false false) := by
  refine returnsInHanded_of_change (C := Try.checked) own started (by kernel_rfl) Try.func6
    (ChangeSpec.witness6 (enc := enc) (C := Try.checked) false ⟨#[], #[.agg #[.int .i64 0, .int .u64 0], .bool false, .agg #[.int .i64 0, .int .i64 0]], []⟩ 8 (by kernel_rfl) (by kernel_rfl) (by kernel_rfl) (by kernel_rfl)) ?_
  intro W base args ds gs before hval hW _ _
  exact contract H enc W base args ds gs before hval hW

theorem proved : Rows.RingStillSaid :=
  OpenClaim.holds_of_wide 6 Try.f6 rfl rfl rfl rfl rfl rfl rfl ⟨rfl, rfl, rfl, rfl, rfl⟩ rfl rfl rfl rfl rfl (by kernel_rfl) Try.func6 (by kernel_rfl)
    (of_decide_eq_true (by kernel_rfl)) (by unfold Func.isWrapper; first | (rw [if_pos (by decide +kernel)]; kernel_rfl) | (rw [if_neg (by decide +kernel)]; exact ⟨rfl, rfl⟩))
    (fun os started H enc _ => lifted os started H enc)
#print axioms proved
end Go.Proofs.Ytfijjipdnejenaa.ringStill
