/-
  One thing behind the other is as of a queue, wherever the counters begin, and so many numbers wait, in order. No condition.
-/
import Derived.Test.YtfijjipdnejenaaRows
import Derived.Test.YtfijjipdnejenaaRgU
import Derived.Test.YtfijjipdnejenaaOpenU
import Derived.Deep.RegionHeld3
import Derived.WalkKit
import Derived.ProofKit
import Derived.OpenShut
namespace Go.Proofs.Ytfijjipdnejenaa.ringAlone
open Go.ChangeShapes Go.WideShapes Go.ChangeAt Go.RowKit
open Go.ChangeMaps (open_string)
set_option linter.unusedVariables false

theorem own : ownKnob Try.prog.godebug = none := by kernel_rfl
theorem dis_que {rb qb lo ab : Nat} {v : Value} (h : rb < qb) (hro : lo + 3 ≤ rb) (hab : rb < ab ∧ qb < ab ∧ ∀ j, v.ownBlock = some j → qb + 1 ≤ j ∧ j < ab) :
    (∀ j, lo ≤ j → j < lo + 3 → ¬ (j = qb ∨ v.ownBlock = some j)) ∧ ¬ (rb = qb ∨ v.ownBlock = some rb) ∧ ¬ (ab = qb ∨ v.ownBlock = some ab) ∧ ∀ j, (j = qb ∨ v.ownBlock = some j) → lo ≤ j := by
  obtain ⟨h1, h2, h3⟩ := hab
  refine ⟨fun j g1 g2 hd => ?_, fun hd => ?_, fun hd => ?_, fun j hd => ?_⟩
  · rcases hd with e | e
    · omega
    · have := h3 j e; omega
  · rcases hd with e | e
    · omega
    · have := h3 _ e; omega
  · rcases hd with e | e
    · omega
    · have := h3 _ e; omega
  · rcases hd with e | e
    · omega
    · have := h3 j e; omega
/-- What stands behind each round. -/
structure Stand (W wr : World) (b rb qb n k p t : Nat) (g : RgS) (v : Value) (ql : List Int) : Prop where
  ring : RingAt wr W.heap.size b rb g
  que : QueAt wr qb n v ql
  rq : RngQ g p t ql
  pu : g.pu = false
  po : g.po = false
  sz : g.sz = n
  pk : p ≤ k
  tm : g.m.t ≤ 10 + 8 * (k : Int)
  bel : Below W.heap.size W wr
  lt : rb < qb

set_option maxRecDepth 100000 in
set_option maxHeartbeats 3200000 in
theorem walk (W : World) (a0 : Int) (b0 : -9223372036854775808 ≤ a0 ∧ a0 ≤ 9223372036854775807) (a1 : Nat) (b1 : a1 < 18446744073709551616) (a2 : Value) (l2 : List Int) (b2 : Sl W W.heap.size 1 a2 l2.length (kv .u64 l2)) (c2 : ∀ x ∈ l2, 0 ≤ x ∧ x ≤ 18446744073709551615) :
    Calls Try.prog 3 #[.int .i64 a0, .int .u64 (a1 : Int), a2] W (Says (.bool true) W) := by
  obtain ⟨A, cap, hv, hcap, hmx⟩ := b2.form
  subst hv
  unfold maxLen at hmx
  obtain ⟨q0, hq64, hqw⟩ := mod_u64 a0 64 (by omega) (by omega)
  have HQW : Hid (wrap64 ((IntKind.u64.wrap a0).tmod 64) = (q0 : Int)) := hqw
  clear hqw b0
  obtain ⟨n, hn⟩ : ∃ n, n = q0 + 1 := ⟨_, rfl⟩
  obtain ⟨C, hC⟩ : ∃ C, C = n + 5 := ⟨_, rfl⟩
  have HN1 : Hid (wrap64 (1 + (q0 : Int)) = (n : Int)) := (by show _ = _; rw [show 1 + (q0 : Int) = (n : Int) by omega]; exact IntWalk.wrap64_in _ (by omega))
  have HN5 : Hid (wrap64 ((n : Int) + 5) = (C : Int)) := (by show _ = _; rw [show (n : Int) + 5 = (C : Int) by omega]; exact IntWalk.wrap64_in _ (by omega))
  have hnn : ((n : Int) != (n : Int)) = false := by simp
  obtain ⟨N, hN⟩ : ∃ N, N = min l2.length 400 := ⟨_, rfl⟩
  have hN0 : N ≤ l2.length := by omega
  have hN2 : N ≤ 400 := by omega
  have HN := Lib.hid hN
  have S0 := Lib.hid b2
  have C0 := Lib.hid c2
  have h64 : 1 ≤ n ∧ n ≤ 64 := by omega
  have hC1 : 1 ≤ C ∧ C ≤ 1048576 := by omega
  have hC3 : 3 + 2 + n ≤ (newS C 0).C := by show 3 + 2 + n ≤ C; omega
  have ht0 : (newS C 0).t ≤ 4611686018427387900 := by show (0 : Int) ≤ _; omega
  have hq := newQ (s := newS C 0) (ba := 3) (sz := n) (st := (a1 : Int)) hC3 (by show C ≤ _; omega) h64.1 h64.2 (by omega) (by omega)
  have X0 := Lib.hid hq
  have HC := Lib.hid (And.intro hC1 (And.intro hC3 (And.intro ht0 h64)))
  clear hn hq64 hC hN b2 c2 hC1 hC3 ht0 hq h64
  have hqw' := HQW.out
  have hn1 := HN1.out
  have hn5 := HN5.out
  go_enter Try.func3, Try.ntmps3
  go_wp2_with fail
  refine (mem_New C 0 HC.out.1 (Nat.zero_le _) _).mono ?_
  rintro e w1 ⟨b, rfl, hm, hb⟩
  have M1 := Lib.hid hm
  have B1 := Lib.hid hb
  clear hm hb
  go_wp2_with fail
  refine (ring_New M1.out HC.out.2.2.1 3 n HC.out.2.1 HC.out.2.2.2.1 HC.out.2.2.2.2 (a1 : Int)).mono ?_
  rintro e w2 ⟨rb, rfl, hr, hle, htt⟩
  have hq := X0.out
  obtain ⟨G0, hG0⟩ : ∃ G, G = newR (newS C 0) 3 n (a1 : Int) := ⟨_, rfl⟩
  rw [← hG0] at hr hq
  have HG : Hid (G0.pu = false ∧ G0.po = false ∧ G0.sz = n ∧ G0.m.t = 2) := by rw [hG0]; exact ⟨rfl, rfl, rfl, rfl⟩
  have R2 := Lib.hid hr
  have X2 := Lib.hid hq
  have B2 := Lib.hid (htt.below B1.out (Nat.le_refl _) B1.out.size)
  clear hr hq htt hle hG0 M1 B1
  go_wp2_with fail
  refine (told14 _).mono ?_
  rintro e w3 ⟨rfl, hb⟩
  have B3 := Lib.hid (B2.out.trans (hb.mono B2.out.size))
  have hsz : Hid ((G0.sz : Int) = (n : Int)) := by rw [HG.out.2.2.1]; rfl
  have R3 := Lib.hid (R2.out.below hb)
  have HSZ := Lib.hid (ring_Size R3.out)
  rw [HG.out.2.2.1] at HSZ
  have hrlt := R3.out.lt
  clear hb R2 B2 hsz
  go_wp2_with fail
  refine (HSZ.out).mono ?_
  rintro e wq ⟨rfl, rfl⟩
  have HQ0 : Hid (QueAt (w3.alloc (.cells #[.int .i64 (n : Nat), .slice none 0 0] 35)) w3.heap.size n (.slice none 0 0) []) :=
    ⟨World.rowIs_alloc w3 #[.int .i64 (n : Nat), .slice none 0 0] 35 (queF n (.slice none 0 0)) (fun i hi => by
      match i, hi with
      | 0, _ => rfl
      | 1, _ => rfl), World.ownsRow_nil _ _ _ _⟩
  have HST : Hid (∃ p t g v ql, Stand W (w3.alloc (.cells #[.int .i64 (n : Nat), .slice none 0 0] 35)) b rb w3.heap.size n 0 p t g v ql) :=
    ⟨0, 0, G0, _, [], R3.out.below ((Below.refl _ _).alloc (Nat.le_refl _) _), HQ0.out, X2.out, HG.out.1, HG.out.2.1, HG.out.2.2.1, Nat.le_refl _, (by rw [HG.out.2.2.2]; decide), B3.out.alloc B3.out.size _, hrlt⟩
  obtain ⟨w4, hw4⟩ : ∃ w4, w4 = w3.alloc (.cells #[.int .i64 (n : Nat), .slice none 0 0] 35) := ⟨_, rfl⟩
  go_wp2
  rw [← hw4] at HST ⊢
  obtain ⟨qb, hqb⟩ : ∃ qb, qb = w3.heap.size := ⟨_, rfl⟩
  rw [← hqb] at HST ⊢
  clear HSZ R3 B3 X2 X0 HG HQ0 hrlt hw4 hqb HC hn1 hn5 hqw' HQW HN1 HN5
  go_loopw [13] (fun i wr => ∃ k : Nat, k ≤ N ∧ i = .int .i64 k ∧ ∃ p t g v ql, Stand W wr b rb qb n k p t g v ql) (fun i _ => N - (intOf i).toNat)
  case atStart => exact ⟨0, by omega, rfl, HST.out⟩
  case round =>
    obtain ⟨k, hk, rfl, p, t, g, v, ql, hst⟩ := hrel
    have HS := Lib.hid hst
    clear hst HST
    have hk0 : (0 : Int) ≤ (k : Int) := Int.natCast_nonneg _
    by_cases hlt : k < N
    · have hd1 : decide (k < l2.length) = true := by simp; omega
      have hd3 : (k : Int) < 400 := by omega
      have hd4 : (k : Int) < (l2.length : Int) := by omega
      obtain ⟨b1, off, cap1, hv, h1, h2, h3, hcell⟩ := S0.out.at_ (show 0 < l2.length by omega)
      injection hv with e1 _ e2
      subst e1 e2
      have hx := kv_getElem? .u64 l2 k (by omega)
      have hck := (HS.out.bel.cell (p := ⟨b1, off + k, none⟩) h3).trans ((hcell k (by omega)).trans hx)
      have hxb := C0.out (l2.getD k 0) (by rw [List.getD_eq_getElem?_getD, List.getElem?_eq_getElem (show k < l2.length by omega)]; exact List.getElem_mem _)
      clear hcell hx
      generalize l2.getD k 0 = x at *
      obtain ⟨xn, rfl⟩ := Int.eq_ofNat_of_zero_le hxb.1
      have hm3 : ((xn : Int)).tmod 3 = ((xn % 3 : Nat) : Int) := by rw [show (3 : Int) = ((3 : Nat) : Int) from rfl, Int.ofNat_tmod]
      have hw3 : IntKind.u64.wrap ((xn % 3 : Nat) : Int) = ((xn % 3 : Nat) : Int) := by rw [IntKind.wrap_u64]; omega
      have hBW : ∀ w', Below W.heap.size W w' → w'.cell? ⟨b1, off + k, none⟩ = some (.int .u64 (xn : Int)) := fun w' hb => (hb.cell (p := ⟨b1, off + k, none⟩) h3).trans ((HS.out.bel.cell (p := ⟨b1, off + k, none⟩) h3).symm.trans hck)
      have HBW := Lib.hid hBW
      clear hBW
      by_cases hm : xn % 3 = 0
      · rw [hm] at hm3 hw3
        have hm3' : ((xn : Int)).tmod 3 = 0 := hm3
        clear hm hm3 hw3
        have hsz := HS.out.ring.lt
        have hqz := HS.out.que.row.lt
        have how := HS.out.que.own.lt
        have hro := HS.out.ring.out
        have hrq := HS.out.lt
        have hlen : ql.length ≤ 64 := by have := HS.out.rq.len; have := HS.out.rq.room; have := HS.out.rq.fits.most; omega
        go_wp2_with fail
        refine (ring_Pop HS.out.ring HS.out.po).mono ?_
        rintro e w1 ⟨rfl, hr, ha, ht⟩
        have hz1 := ha.lt
        have hbw1 := ht.size
        have Q1 := Lib.hid (HS.out.que.tch ht (by omega) (fun j hj => by have := (how j hj).1; omega))
        have R1 := Lib.hid hr
        have B1' := Lib.hid (ht.below HS.out.bel (fun j hj => by omega) HS.out.bel.size)
        have hab : rb < wr.heap.size ∧ qb < wr.heap.size ∧ (∀ j, v.ownBlock = some j → qb + 1 ≤ j ∧ j < wr.heap.size) := ⟨hsz, hqz, how⟩
        have hWr := HS.out.bel.size
        obtain ⟨ab, hab0⟩ : ∃ ab, ab = wr.heap.size := ⟨_, rfl⟩
        rw [← hab0] at ha hab hz1 ⊢
        have A1 := Lib.hid ha
        have HAB := Lib.hid hab
        clear hr ha ht hab hab0
        obtain ⟨z, hz⟩ : ∃ z, z = !ql.isEmpty := ⟨_, rfl⟩
        obtain ⟨V, hV⟩ : ∃ V, V = ql.headD 0 := ⟨_, rfl⟩
        have HPU := que_PopU Q1.out (by omega)
        rw [← hz, ← hV] at HPU
        have HZ := Lib.hid hz
        have HV := Lib.hid hV
        have HPU := Lib.hid HPU
        clear hz hV
        go_wp2_with fail
        refine (HPU.out).mono ?_
        rintro e w2 ⟨rfl, v2, hq2, ht2, ho2⟩
        have hx : ∀ j, v2.ownBlock = some j → qb + 1 ≤ j ∧ j ≠ ab := fun j hj => by
          refine ⟨(hq2.own.lt j hj).1, ?_⟩
          rcases ho2 with e | e
          · rw [e] at hj
            have := (HAB.out.2.2 j hj).2
            omega
          · have := e j hj
            omega
        have hdq := dis_que (lo := W.heap.size) (ab := ab) hrq hro HAB.out
        have R2 := Lib.hid (R1.out.tch ht2 hdq.1 hdq.2.1)
        have A2 := Lib.hid (A1.out.tch ht2 hdq.2.2.1)
        have B2' := Lib.hid (ht2.below B1'.out hdq.2.2.2 B1'.out.size)
        clear hdq
        have Q2 := Lib.hid hq2
        have HX := Lib.hid hx
        have hz2 := hq2.row.lt
        clear hq2 ht2 ho2 hx R1 A1 Q1 B1'
        go_wp2_with fail
        refine (finish_pop R2.out A2.out (by have := HAB.out.1; omega) (by have := HAB.out.1; omega) (by have := HS.out.tm; omega) HS.out.rq).mono ?_
        rintro e w5 ⟨g2, a2, t2, rfl, hr, ha, ht3, hl, hpu, hpo, hok, hval, hrq2, _⟩
        have R5 := Lib.hid hr
        have A5 := Lib.hid ha
        have Q5 := Lib.hid (Q2.out.tch ht3 (by unfold RingD; have := HAB.out.2.1; omega) (fun j hj => by have := HX.out j hj; unfold RingD; omega))
        have B5 := Lib.hid (ht3.below B2'.out (fun j hj => by unfold RingD at hj; have := HAB.out.1; omega) B2'.out.size)
        have X5 := Lib.hid hrq2
        have F5 : Hid (g2.pu = false ∧ g2.po = false ∧ g2.sz = n ∧ p ≤ k + 1 ∧ g2.m.t ≤ 14 + 8 * (k : Int)) := ⟨hpu.trans HS.out.pu, hpo, hl.sz.trans HS.out.sz, by have := HS.out.pk; omega, by have := hl.t2; have := HS.out.tm; omega⟩
        obtain ⟨q2, hq2⟩ : ∃ q2, q2 = ql.tail := ⟨_, rfl⟩
        have HOK := Lib.hid (act_Ok A5.out)
        have HVA := Lib.hid (act_Value A5.out)
        have HOK := HOK.out
        have HVA := HVA.out
        rw [hok, ← HZ.out] at HOK
        rw [hval, ← HV.out] at HVA
        have HOK := Lib.hid HOK
        have HVA := Lib.hid HVA
        rw [← hq2] at X5 Q5
        have hzz : (z != z) = false := by simp
        have hVV : (V != V) = false := by simp
        clear hr ha ht3 hl hpu hpo hok hval hrq2 hq2 HZ HV HPU R2 A2 Q2 B2' HX HAB how hlen
        go_wp2_with fail
        refine (HOK.out).mono ?_
        rintro e wq ⟨rfl, rfl⟩
        go_wp2_with fail
        refine (HVA.out).mono ?_
        rintro e wq ⟨rfl, rfl⟩
        have HLN : Hid (∀ w', Below w5.heap.size w5 w' → Calls Try.prog 22 #[.pointer (some ⟨rb, 0, none⟩)] w' (Quiet (.int .i64 (q2.length : Nat)) w')) := fun w' hb => ring_Len (R5.out.below hb) X5.out
        have HLS : Hid (∀ w', Below w5.heap.size w5 w' → Calls Try.prog 24 #[.pointer (some ⟨rb, 0, none⟩)] w' fun e w2 => ∃ u, e = .returned u ∧ w2.ownsRow w'.heap.size 22 1 u q2.length (kv .u64 q2) ∧ Below w'.heap.size w' w2) := fun w' hb => ring_List (R5.out.below hb) X5.out
        have HSM : Hid (∀ w' u, w'.ownsRow w5.heap.size 22 1 u q2.length (kv .u64 q2) → Below w5.heap.size w5 w' → Calls Try.prog 23 #[u, v2] w' (Quiet (.bool true) w')) := fun w' u hu hb => ref14_Same (Sl.of_own hu) ((Sl.of_own Q5.out.own).below hb)
        have c1 : w5.cell? ⟨qb, 1, none⟩ = some v2 := Q5.out.row.cell (by omega)
        have hqlt : qb < w5.heap.size := Q5.out.row.lt
        obtain ⟨A2, cap2, hv2, _, _⟩ := (Sl.of_own Q5.out.own).form
        subst hv2
        obtain ⟨L2, hL2⟩ : ∃ L, L = q2.length := ⟨_, rfl⟩
        rw [← hL2] at HLN HLS HSM c1
        have hll : ((L2 : Int) != (L2 : Int)) = false := by simp
        clear hL2
        go_wp2_with fail
        go_region_held3 (fun w' => w'.cell? ⟨qb, 1, none⟩ = some (.slice A2 L2 cap2)) (first | exact (hbu.cell (p := ⟨qb, 1, none⟩) (by go_size)).trans (by assumption) | go_keep) (first
          | (go_at_call 22; (with_reducible refine Calls.mono (HLN.out _ (by (repeat' (first | (with_reducible exact Below.refl _ _) | (with_reducible assumption) | (with_reducible refine Below.setCell ?_ ?_ _) | (with_reducible refine Below.alloc ?_ ?_ _) | (with_reducible refine below_drewN ?_ _) | (with_reducible refine Below.drew ?_) | go_size)))) ?_); rintro e w6 ⟨rfl, nq6, rfl⟩)
          | (go_at_call 24; (with_reducible refine Calls.mono (HLS.out _ (by (repeat' (first | (with_reducible exact Below.refl _ _) | (with_reducible assumption) | (with_reducible refine Below.setCell ?_ ?_ _) | (with_reducible refine Below.alloc ?_ ?_ _) | (with_reducible refine below_drewN ?_ _) | (with_reducible refine Below.drew ?_) | go_size)))) ?_); rintro e w7 ⟨u7, rfl, hu7, hbu⟩; have HB7 : Below w5.heap.size w5 w7 := Below.trans (by (repeat' (first | (with_reducible exact Below.refl _ _) | (with_reducible assumption) | (with_reducible refine Below.setCell ?_ ?_ _) | (with_reducible refine Below.alloc ?_ ?_ _) | (with_reducible refine below_drewN ?_ _) | (with_reducible refine Below.drew ?_) | go_size))) (hbu.mono (by go_size)); have HU7 := Lib.hid (own_base hu7 (base' := w5.heap.size) (by go_size)); clear hu7)
          | (go_at_call 23; (with_reducible refine Calls.mono (HSM.out _ _ HU7.out (by (repeat' (first | (with_reducible exact Below.refl _ _) | (with_reducible assumption) | (with_reducible refine Below.setCell ?_ ?_ _) | (with_reducible refine Below.alloc ?_ ?_ _) | (with_reducible refine below_drewN ?_ _) | (with_reducible refine Below.drew ?_) | go_size)))) ?_); rintro e w8 ⟨rfl, nq8, rfl⟩))
        all_goals
          have HB9 := Lib.hid HB7
          go_wp2
          go_roundw
          case rel => exact ⟨k + 1, by omega, by go_num, ⟨_, _, _, _, _, ⟨R5.out.below (below_drewN HB9.out _), Q5.out.below (below_drewN HB9.out _), X5.out, F5.out.1, F5.out.2.1, F5.out.2.2.1, F5.out.2.2.2.1, by have := F5.out.2.2.2.2; omega, below_drewN (B5.out.trans (HB9.out.mono B5.out.size)) _, hrq⟩⟩⟩
          case measure => simp [intOf]; omega
      · have hm0 : (((xn % 3 : Nat) : Int) == 0) = false := by simp; omega
        generalize xn % 3 = r3 at *
        clear hm
        have hsz := HS.out.ring.lt
        have hqz := HS.out.que.row.lt
        have how := HS.out.que.own.lt
        have hro := HS.out.ring.out
        have hrq := HS.out.lt
        have hlen : ql.length ≤ 64 := by have := HS.out.rq.len; have := HS.out.rq.room; have := HS.out.rq.fits.most; omega
        go_wp2_with fail
        refine (ring_Push HS.out.ring HS.out.pu (xn : Int)).mono ?_
        rintro e w1 ⟨rfl, hr, ha, ht⟩
        have hz1 := ha.lt
        have hbw1 := ht.size
        have Q1 := Lib.hid (HS.out.que.tch ht (by omega) (fun j hj => by have := (how j hj).1; omega))
        have R1 := Lib.hid hr
        have B1' := Lib.hid (ht.below HS.out.bel (fun j hj => by omega) HS.out.bel.size)
        have hab : rb < wr.heap.size ∧ qb < wr.heap.size ∧ (∀ j, v.ownBlock = some j → qb + 1 ≤ j ∧ j < wr.heap.size) := ⟨hsz, hqz, how⟩
        have hWr := HS.out.bel.size
        obtain ⟨ab, hab0⟩ : ∃ ab, ab = wr.heap.size := ⟨_, rfl⟩
        rw [← hab0] at ha hab hz1 ⊢
        have A1 := Lib.hid ha
        have HAB := Lib.hid hab
        have hck1 := HBW.out _ B1'.out
        clear hr ha ht hab hab0
        go_wp2_with fail
        refine (que_Push Q1.out (by omega) (xn : Int)).mono ?_
        rintro e w2 ⟨rfl, v2, hq2, ht2, ho2⟩
        have hx : ∀ j, v2.ownBlock = some j → qb + 1 ≤ j ∧ j ≠ ab := fun j hj => by
          refine ⟨(hq2.own.lt j hj).1, ?_⟩
          rcases ho2 with e | e
          · rw [e] at hj
            have := (HAB.out.2.2 j hj).2
            omega
          · have := e j hj
            omega
        have hdq := dis_que (lo := W.heap.size) (ab := ab) hrq hro HAB.out
        have R2 := Lib.hid (R1.out.tch ht2 hdq.1 hdq.2.1)
        have A2 := Lib.hid (A1.out.tch ht2 hdq.2.2.1)
        have B2' := Lib.hid (ht2.below B1'.out hdq.2.2.2 B1'.out.size)
        have Q2 := Lib.hid hq2
        have HX := Lib.hid hx
        have hz2 := hq2.row.lt
        have HFIN := Lib.hid (fun (w' : World) (hb : Below w2.heap.size w2 w') => finish_push (R2.out.below hb) (A2.out.below hb) (by have := HAB.out.1; omega) (by have := HAB.out.1; omega) (by have := HS.out.tm; omega) HS.out.rq (by have := HS.out.pk; omega))
        clear hq2 ht2 ho2 hx R1 A1 Q1 B1' hdq how hlen hck1
        by_cases hzn : ql.length < n
        · have hd := decide_eq_true hzn
          have HZ := Lib.hid hd
          have HZ2 := Lib.hid hzn
          rw [hd]
          rw [if_pos hzn] at Q2
          clear hd hzn
          go_wp2_with fail
          refine wp_region_held_drew (S := fun w' => w'.cell? ⟨b1, off + k, none⟩ = some (.int .u64 (xn : Int))) (by kernel_rfl) ?_ (fun hHeld => ?_)
          · exact HBW.out _ (B2'.out.drew)
          refine wpAnyH_take (i := 0) (oi := { dst := some 106, op := Go.Op.move (Go.Operand.tmp 17), type := 36, pos := "law.go:57", after := #[], guard := none }) (v := ?_) rfl (by kernel_rfl) (by kernel_rfl) (by kernel_rfl) (fun _ _ _ h => h) (Or.inl ⟨by rfl, ?_⟩) (by assumption) ?_
          rotate_left
          · intro w hSw
            (try dsimp only at hSw)
            go_simp
            try with_reducible rfl
          (try simp only [Act.put, List.setIfInBounds_toArray, List.set_cons_zero, List.set_cons_succ])
          refine wpAnyH_ready (rs := [1]) (by kernel_rfl) (by simp) ?_
          refine AllReadyH.cons (o := { dst := some 107, op := Go.Op.call { callee := Go.Callee.value (Go.Operand.func 17), args := #[Go.Operand.tmp 106], argTypes := #[36] }, type := 4, pos := "law.go:57", after := #[{ on := 0, ground := Go.Ground.data }], guard := none }) rfl (fun K hK => ?_) AllReadyH.nil
          go_simp
          refine Calls.mono (HFIN.out _ (Below.drew (Below.refl _ _))) ?_
          rintro e w5 ⟨g2, a2, p2, rfl, hr, ha, ht3, hl, hpu, hpo, hok, hnum, hrq2, hp2, _⟩
          have hok' : a2.ok = true := by rw [hok, HS.out.sz]; exact HZ.out
          have R5 := Lib.hid hr
          have HOK := act_Ok ha
          have HVA := act_Value ha
          rw [hok'] at HOK
          rw [if_pos hok', hnum] at HVA
          have HOK := Lib.hid HOK
          have HVA := Lib.hid HVA
          have Q5 := Lib.hid ((Q2.out.below (Below.drew (Below.refl _ _))).tch ht3 (by unfold RingD; have := HAB.out.2.1; omega) (fun j hj => by have := HX.out j hj; unfold RingD; omega))
          have B5 := Lib.hid (ht3.below (B2'.out.drew) (fun j hj => by unfold RingD at hj; have := HAB.out.1; omega) B2'.out.size)
          have X5 : Hid (RngQ g2 p2 t (ql ++ [(xn : Int)])) := by rw [HS.out.sz, if_pos HZ2.out] at hrq2; exact hrq2
          have F5 : Hid (g2.pu = false ∧ g2.po = false ∧ g2.sz = n ∧ p2 ≤ k + 1 ∧ g2.m.t ≤ 14 + 8 * (k : Int)) := ⟨hpu, hpo.trans HS.out.po, hl.sz.trans HS.out.sz, by have := HS.out.pk; omega, by have := hl.t2; have := HS.out.tm; omega⟩
          clear hr ha ht3 hl hpu hpo hok hok' hnum hrq2 hp2
          refine hK.out _ _ ?_ (fun hHeld => ?_)
          · (try dsimp only)
            exact HBW.out _ B5.out
          clear hK K
          (try simp only [Act.put, List.setIfInBounds_toArray, List.set_cons_zero, List.set_cons_succ])
          refine wpAnyH_take (i := 2) (oi := { dst := some 108, op := Go.Op.unOp Go.UnOp.not 4 (Go.Operand.tmp 107), type := 4, pos := "law.go:57", after := #[{ on := 1, ground := Go.Ground.data }], guard := none }) (v := ?_) rfl (by kernel_rfl) (by kernel_rfl) (by kernel_rfl) (fun _ _ _ h => h) (Or.inl ⟨by rfl, ?_⟩) (by assumption) ?_
          rotate_left
          · intro w hSw
            (try dsimp only at hSw)
            go_simp
            try with_reducible rfl
          (try simp only [Act.put, List.setIfInBounds_toArray, List.set_cons_zero, List.set_cons_succ])
          refine wpAnyH_take (i := 3) (oi := { dst := some 109, op := Go.Op.move (Go.Operand.tmp 108), type := 4, pos := "law.go:57", after := #[{ on := 2, ground := Go.Ground.data }, { on := 1, ground := Go.Ground.chain }], guard := none }) (v := ?_) rfl (by kernel_rfl) (by kernel_rfl) (by kernel_rfl) (fun _ _ _ h => h) (Or.inl ⟨by rfl, ?_⟩) (by assumption) ?_
          rotate_left
          · intro w hSw
            (try dsimp only at hSw)
            go_simp
            try with_reducible rfl
          (try simp only [Act.put, List.setIfInBounds_toArray, List.set_cons_zero, List.set_cons_succ])
          refine wpAnyH_take (i := 4) (oi := { dst := some 110, op := Go.Op.move (Go.Operand.tmp 17), type := 36, pos := "law.go:57", after := #[{ on := 3, ground := Go.Ground.guard }], guard := some (3, false) }) (v := ?_) rfl (by kernel_rfl) (by kernel_rfl) (by kernel_rfl) (fun _ _ _ h => h) (Or.inl ⟨by rfl, ?_⟩) (by assumption) ?_
          rotate_left
          · intro w hSw
            (try dsimp only at hSw)
            go_simp
            try with_reducible rfl
          (try simp only [Act.put, List.setIfInBounds_toArray, List.set_cons_zero, List.set_cons_succ])
          refine wpAnyH_take (i := 6) (oi := { dst := some 112, op := Go.Op.move (Go.Operand.tmp 18), type := 4, pos := "law.go:57", after := #[{ on := 3, ground := Go.Ground.guard }], guard := some (3, false) }) (v := ?_) rfl (by kernel_rfl) (by kernel_rfl) (by kernel_rfl) (fun _ _ _ h => h) (Or.inl ⟨by rfl, ?_⟩) (by assumption) ?_
          rotate_left
          · intro w hSw
            (try dsimp only at hSw)
            go_simp
            try with_reducible rfl
          (try simp only [Act.put, List.setIfInBounds_toArray, List.set_cons_zero, List.set_cons_succ])
          refine wpAnyH_ready (rs := [5]) (by kernel_rfl) (by simp) ?_
          refine AllReadyH.cons (o := { dst := some 111, op := Go.Op.call { callee := Go.Callee.value (Go.Operand.func 18), args := #[Go.Operand.tmp 110], argTypes := #[36] }, type := 4, pos := "law.go:57", after := #[{ on := 4, ground := Go.Ground.data }, { on := 3, ground := Go.Ground.chain }, { on := 3, ground := Go.Ground.guard }], guard := some (3, false) }) rfl (fun K hK => ?_) AllReadyH.nil
          go_simp
          refine Calls.mono (HOK.out) ?_
          rintro e w6 ⟨rfl, rfl⟩
          refine hK.out _ _ ?_ (fun hHeld => ?_)
          · (try dsimp only)
            exact hHeld
          clear hK K
          (try simp only [Act.put, List.setIfInBounds_toArray, List.set_cons_zero, List.set_cons_succ])
          refine wpAnyH_take (i := 7) (oi := { dst := some 113, op := Go.Op.binOp Go.BinOp.neq 4 (Go.Operand.tmp 111) (Go.Operand.tmp 112) 4, type := 4, pos := "law.go:57", after := #[{ on := 5, ground := Go.Ground.data }, { on := 6, ground := Go.Ground.data }, { on := 3, ground := Go.Ground.guard }], guard := some (3, false) }) (v := ?_) rfl (by kernel_rfl) (by kernel_rfl) (by kernel_rfl) (fun _ _ _ h => h) (Or.inl ⟨by rfl, ?_⟩) (by assumption) ?_
          rotate_left
          · intro w hSw
            (try dsimp only at hSw)
            go_simp
            try with_reducible rfl
          (try simp only [Act.put, List.setIfInBounds_toArray, List.set_cons_zero, List.set_cons_succ])
          refine wpAnyH_take (i := 8) (oi := { dst := some 114, op := Go.Op.pick (Go.Operand.tmp 109) (Go.Operand.const (Go.Value.bool true)) (Go.Operand.tmp 113), type := 4, pos := "law.go:57", after := #[{ on := 3, ground := Go.Ground.data }, { on := 7, ground := Go.Ground.data }], guard := none }) (v := ?_) rfl (by kernel_rfl) (by kernel_rfl) (by kernel_rfl) (fun _ _ _ h => h) (Or.inl ⟨by rfl, ?_⟩) (by assumption) ?_
          rotate_left
          · intro w hSw
            (try dsimp only at hSw)
            go_simp
            try with_reducible rfl
          (try simp only [Act.put, List.setIfInBounds_toArray, List.set_cons_zero, List.set_cons_succ])
          refine wpAnyH_take (i := 9) (oi := { dst := some 115, op := Go.Op.move (Go.Operand.tmp 114), type := 4, pos := "law.go:57", after := #[{ on := 8, ground := Go.Ground.data }, { on := 5, ground := Go.Ground.chain }], guard := none }) (v := ?_) rfl (by kernel_rfl) (by kernel_rfl) (by kernel_rfl) (fun _ _ _ h => h) (Or.inl ⟨by rfl, ?_⟩) (by assumption) ?_
          rotate_left
          · intro w hSw
            (try dsimp only at hSw)
            go_simp
            try with_reducible rfl
          (try simp only [Act.put, List.setIfInBounds_toArray, List.set_cons_zero, List.set_cons_succ])
          refine wpAnyH_take (i := 10) (oi := { dst := some 116, op := Go.Op.move (Go.Operand.tmp 18), type := 4, pos := "law.go:57", after := #[{ on := 9, ground := Go.Ground.guard }], guard := some (9, false) }) (v := ?_) rfl (by kernel_rfl) (by kernel_rfl) (by kernel_rfl) (fun _ _ _ h => h) (Or.inl ⟨by rfl, ?_⟩) (by assumption) ?_
          rotate_left
          · intro w hSw
            (try dsimp only at hSw)
            go_simp
            try with_reducible rfl
          (try simp only [Act.put, List.setIfInBounds_toArray, List.set_cons_zero, List.set_cons_succ])
          refine wpAnyH_take (i := 11) (oi := { dst := some 117, op := Go.Op.move (Go.Operand.tmp 116), type := 4, pos := "law.go:57", after := #[{ on := 10, ground := Go.Ground.data }, { on := 9, ground := Go.Ground.chain }, { on := 9, ground := Go.Ground.guard }], guard := some (9, false) }) (v := ?_) rfl (by kernel_rfl) (by kernel_rfl) (by kernel_rfl) (fun _ _ _ h => h) (Or.inl ⟨by rfl, ?_⟩) (by assumption) ?_
          rotate_left
          · intro w hSw
            (try dsimp only at hSw)
            go_simp
            try with_reducible rfl
          (try simp only [Act.put, List.setIfInBounds_toArray, List.set_cons_zero, List.set_cons_succ])
          refine wpAnyH_take (i := 12) (oi := { dst := some 118, op := Go.Op.move (Go.Operand.tmp 17), type := 36, pos := "law.go:57", after := #[{ on := 11, ground := Go.Ground.guard }], guard := some (11, true) }) (v := ?_) rfl (by kernel_rfl) (by kernel_rfl) (by kernel_rfl) (fun _ _ _ h => h) (Or.inl ⟨by rfl, ?_⟩) (by assumption) ?_
          rotate_left
          · intro w hSw
            (try dsimp only at hSw)
            go_simp
            try with_reducible rfl
          (try simp only [Act.put, List.setIfInBounds_toArray, List.set_cons_zero, List.set_cons_succ])
          refine wpAnyH_take (i := 14) (oi := { dst := some 120, op := Go.Op.move (Go.Operand.tmp 2), type := 23, pos := "law.go:57", after := #[{ on := 11, ground := Go.Ground.guard }], guard := some (11, true) }) (v := ?_) rfl (by kernel_rfl) (by kernel_rfl) (by kernel_rfl) (fun _ _ _ h => h) (Or.inl ⟨by rfl, ?_⟩) (by assumption) ?_
          rotate_left
          · intro w hSw
            (try dsimp only at hSw)
            go_simp
            try with_reducible rfl
          (try simp only [Act.put, List.setIfInBounds_toArray, List.set_cons_zero, List.set_cons_succ])
          refine wpAnyH_take (i := 15) (oi := { dst := some 121, op := Go.Op.move (Go.Operand.tmp 13), type := 3, pos := "law.go:57", after := #[{ on := 11, ground := Go.Ground.guard }], guard := some (11, true) }) (v := ?_) rfl (by kernel_rfl) (by kernel_rfl) (by kernel_rfl) (fun _ _ _ h => h) (Or.inl ⟨by rfl, ?_⟩) (by assumption) ?_
          rotate_left
          · intro w hSw
            (try dsimp only at hSw)
            go_simp
            try with_reducible rfl
          (try simp only [Act.put, List.setIfInBounds_toArray, List.set_cons_zero, List.set_cons_succ])
          refine wpAnyH_take (i := 16) (oi := { dst := some 122, op := Go.Op.indexAddr 23 (Go.Operand.tmp 120) (Go.Operand.tmp 121), type := 0, pos := "law.go:57", after := #[{ on := 14, ground := Go.Ground.data }, { on := 15, ground := Go.Ground.data }, { on := 11, ground := Go.Ground.guard }], guard := some (11, true) }) (v := ?_) rfl (by kernel_rfl) (by kernel_rfl) (by kernel_rfl) (fun _ _ _ h => h) (Or.inl ⟨by rfl, ?_⟩) (by assumption) ?_
          rotate_left
          · intro w hSw
            (try dsimp only at hSw)
            go_simp
            try with_reducible rfl
          (try simp only [Act.put, List.setIfInBounds_toArray, List.set_cons_zero, List.set_cons_succ])
          refine wpAnyH_take (i := 17) (oi := { dst := some 123, op := Go.Op.load 22 (Go.Operand.tmp 122), type := 22, pos := "law.go:57", after := #[{ on := 16, ground := Go.Ground.data }, { on := 11, ground := Go.Ground.guard }], guard := some (11, true) }) (v := ?_) rfl (by kernel_rfl) (by kernel_rfl) (by kernel_rfl) (fun _ _ _ h => h) (Or.inl ⟨by rfl, ?_⟩) (by assumption) ?_
          rotate_left
          · intro w hSw
            (try dsimp only at hSw)
            go_simp
            try with_reducible rfl
          (try simp only [Act.put, List.setIfInBounds_toArray, List.set_cons_zero, List.set_cons_succ])
          refine wpAnyH_ready (rs := [13]) (by kernel_rfl) (by simp) ?_
          refine AllReadyH.cons (o := { dst := some 119, op := Go.Op.call { callee := Go.Callee.value (Go.Operand.func 19), args := #[Go.Operand.tmp 118], argTypes := #[36] }, type := 22, pos := "law.go:57", after := #[{ on := 12, ground := Go.Ground.data }, { on := 11, ground := Go.Ground.chain }, { on := 11, ground := Go.Ground.guard }], guard := some (11, true) }) rfl (fun K hK => ?_) AllReadyH.nil
          go_simp
          refine Calls.mono (HVA.out) ?_
          rintro e w7 ⟨rfl, rfl⟩
          refine hK.out _ _ ?_ (fun hHeld => ?_)
          · (try dsimp only)
            exact hHeld
          clear hK K
          (try simp only [Act.put, List.setIfInBounds_toArray, List.set_cons_zero, List.set_cons_succ])
          refine wpAnyH_take (i := 18) (oi := { dst := some 124, op := Go.Op.binOp Go.BinOp.neq 22 (Go.Operand.tmp 119) (Go.Operand.tmp 123) 22, type := 4, pos := "law.go:57", after := #[{ on := 13, ground := Go.Ground.data }, { on := 17, ground := Go.Ground.data }, { on := 11, ground := Go.Ground.guard }], guard := some (11, true) }) (v := ?_) rfl (by kernel_rfl) (by kernel_rfl) (by kernel_rfl) (fun _ _ _ h => h) (Or.inl ⟨by rfl, ?_⟩) (by assumption) ?_
          rotate_left
          · intro w hSw
            (try dsimp only at hSw)
            go_simp
            try with_reducible rfl
          (try simp only [Act.put, List.setIfInBounds_toArray, List.set_cons_zero, List.set_cons_succ])
          refine wpAnyH_take (i := 19) (oi := { dst := some 125, op := Go.Op.pick (Go.Operand.tmp 117) (Go.Operand.tmp 124) (Go.Operand.const (Go.Value.bool false)), type := 4, pos := "law.go:57", after := #[{ on := 11, ground := Go.Ground.data }, { on := 18, ground := Go.Ground.data }, { on := 9, ground := Go.Ground.guard }], guard := some (9, false) }) (v := ?_) rfl (by kernel_rfl) (by kernel_rfl) (by kernel_rfl) (fun _ _ _ h => h) (Or.inl ⟨by rfl, ?_⟩) (by assumption) ?_
          rotate_left
          · intro w hSw
            (try dsimp only at hSw)
            go_simp
            try with_reducible rfl
          (try simp only [Act.put, List.setIfInBounds_toArray, List.set_cons_zero, List.set_cons_succ])
          refine wpAnyH_take (i := 20) (oi := { dst := some 126, op := Go.Op.pick (Go.Operand.tmp 115) (Go.Operand.const (Go.Value.bool true)) (Go.Operand.tmp 125), type := 4, pos := "law.go:57", after := #[{ on := 9, ground := Go.Ground.data }, { on := 19, ground := Go.Ground.data }], guard := none }) (v := ?_) rfl (by kernel_rfl) (by kernel_rfl) (by kernel_rfl) (fun _ _ _ h => h) (Or.inl ⟨by rfl, ?_⟩) (by assumption) ?_
          rotate_left
          · intro w hSw
            (try dsimp only at hSw)
            go_simp
            try with_reducible rfl
          (try simp only [Act.put, List.setIfInBounds_toArray, List.set_cons_zero, List.set_cons_succ])
          refine wpAnyH_take (i := 21) (oi := { dst := some 127, op := Go.Op.move (Go.Operand.tmp 126), type := 4, pos := "law.go:57", after := #[{ on := 20, ground := Go.Ground.data }, { on := 13, ground := Go.Ground.chain }], guard := none }) (v := ?_) rfl (by kernel_rfl) (by kernel_rfl) (by kernel_rfl) (fun _ _ _ h => h) (Or.inl ⟨by rfl, ?_⟩) (by assumption) ?_
          rotate_left
          · intro w hSw
            (try dsimp only at hSw)
            go_simp
            try with_reducible rfl
          (try simp only [Act.put, List.setIfInBounds_toArray, List.set_cons_zero, List.set_cons_succ])
          refine wpAnyH_take (i := 22) (oi := { dst := some 128, op := Go.Op.move (Go.Operand.tmp 18), type := 4, pos := "law.go:57", after := #[{ on := 21, ground := Go.Ground.guard }], guard := some (21, false) }) (v := ?_) rfl (by kernel_rfl) (by kernel_rfl) (by kernel_rfl) (fun _ _ _ h => h) (Or.inl ⟨by rfl, ?_⟩) (by assumption) ?_
          rotate_left
          · intro w hSw
            (try dsimp only at hSw)
            go_simp
            try with_reducible rfl
          (try simp only [Act.put, List.setIfInBounds_toArray, List.set_cons_zero, List.set_cons_succ])
          refine wpAnyH_take (i := 23) (oi := { dst := some 129, op := Go.Op.unOp Go.UnOp.not 4 (Go.Operand.tmp 128), type := 4, pos := "law.go:57", after := #[{ on := 22, ground := Go.Ground.data }, { on := 21, ground := Go.Ground.guard }], guard := some (21, false) }) (v := ?_) rfl (by kernel_rfl) (by kernel_rfl) (by kernel_rfl) (fun _ _ _ h => h) (Or.inl ⟨by rfl, ?_⟩) (by assumption) ?_
          rotate_left
          · intro w hSw
            (try dsimp only at hSw)
            go_simp
            try with_reducible rfl
          (try simp only [Act.put, List.setIfInBounds_toArray, List.set_cons_zero, List.set_cons_succ])
          refine wpAnyH_take (i := 24) (oi := { dst := some 130, op := Go.Op.move (Go.Operand.tmp 129), type := 4, pos := "law.go:57", after := #[{ on := 23, ground := Go.Ground.data }, { on := 21, ground := Go.Ground.chain }, { on := 21, ground := Go.Ground.guard }], guard := some (21, false) }) (v := ?_) rfl (by kernel_rfl) (by kernel_rfl) (by kernel_rfl) (fun _ _ _ h => h) (Or.inl ⟨by rfl, ?_⟩) (by assumption) ?_
          rotate_left
          · intro w hSw
            (try dsimp only at hSw)
            go_simp
            try with_reducible rfl
          (try simp only [Act.put, List.setIfInBounds_toArray, List.set_cons_zero, List.set_cons_succ])
          refine wpAnyH_take (i := 25) (oi := { dst := some 131, op := Go.Op.move (Go.Operand.tmp 17), type := 36, pos := "law.go:57", after := #[{ on := 24, ground := Go.Ground.guard }], guard := some (24, true) }) (v := undef) rfl (by kernel_rfl) (by kernel_rfl) (by kernel_rfl) (fun _ _ _ h => h) (Or.inr ⟨by rfl, rfl⟩) (by assumption) ?_
          (try simp only [Act.put, List.setIfInBounds_toArray, List.set_cons_zero, List.set_cons_succ])
          refine wpAnyH_take (i := 26) (oi := { dst := some 132, op := Go.Op.call { callee := Go.Callee.value (Go.Operand.func 19), args := #[Go.Operand.tmp 131], argTypes := #[36] }, type := 22, pos := "law.go:57", after := #[{ on := 25, ground := Go.Ground.data }, { on := 24, ground := Go.Ground.chain }, { on := 24, ground := Go.Ground.guard }], guard := some (24, true) }) (v := undef) rfl (by kernel_rfl) (by kernel_rfl) (by kernel_rfl) (fun _ _ _ h => h) (Or.inr ⟨by rfl, rfl⟩) (by assumption) ?_
          (try simp only [Act.put, List.setIfInBounds_toArray, List.set_cons_zero, List.set_cons_succ])
          refine wpAnyH_take (i := 27) (oi := { dst := some 133, op := Go.Op.binOp Go.BinOp.neq 22 (Go.Operand.tmp 132) (Go.Operand.const (Go.Value.int Go.IntKind.u64 0)) 22, type := 4, pos := "law.go:57", after := #[{ on := 26, ground := Go.Ground.data }, { on := 24, ground := Go.Ground.guard }], guard := some (24, true) }) (v := undef) rfl (by kernel_rfl) (by kernel_rfl) (by kernel_rfl) (fun _ _ _ h => h) (Or.inr ⟨by rfl, rfl⟩) (by assumption) ?_
          (try simp only [Act.put, List.setIfInBounds_toArray, List.set_cons_zero, List.set_cons_succ])
          refine wpAnyH_take (i := 28) (oi := { dst := some 134, op := Go.Op.pick (Go.Operand.tmp 130) (Go.Operand.tmp 133) (Go.Operand.const (Go.Value.bool false)), type := 4, pos := "law.go:57", after := #[{ on := 24, ground := Go.Ground.data }, { on := 27, ground := Go.Ground.data }, { on := 21, ground := Go.Ground.guard }], guard := some (21, false) }) (v := ?_) rfl (by kernel_rfl) (by kernel_rfl) (by kernel_rfl) (fun _ _ _ h => h) (Or.inl ⟨by rfl, ?_⟩) (by assumption) ?_
          rotate_left
          · intro w hSw
            (try dsimp only at hSw)
            go_simp
            try with_reducible rfl
          (try simp only [Act.put, List.setIfInBounds_toArray, List.set_cons_zero, List.set_cons_succ])
          refine wpAnyH_take (i := 29) (oi := { dst := some 135, op := Go.Op.pick (Go.Operand.tmp 127) (Go.Operand.const (Go.Value.bool true)) (Go.Operand.tmp 134), type := 4, pos := "law.go:57", after := #[{ on := 21, ground := Go.Ground.data }, { on := 28, ground := Go.Ground.data }], guard := none }) (v := ?_) rfl (by kernel_rfl) (by kernel_rfl) (by kernel_rfl) (fun _ _ _ h => h) (Or.inl ⟨by rfl, ?_⟩) (by assumption) ?_
          rotate_left
          · intro w hSw
            (try dsimp only at hSw)
            go_simp
            try with_reducible rfl
          (try simp only [Act.put, List.setIfInBounds_toArray, List.set_cons_zero, List.set_cons_succ])
          refine wpAnyH_done (by kernel_rfl) ?_ _
          obtain ⟨q2, hq2⟩ : ∃ q2, q2 = ql ++ [(xn : Int)] := ⟨_, rfl⟩
          rw [← hq2] at X5 Q5
          clear hHeld hq2 HOK HVA HFIN R2 A2 Q2 B2' HX HAB HZ HZ2
          have HLN : Hid (∀ w', Below w5.heap.size w5 w' → Calls Try.prog 22 #[.pointer (some ⟨rb, 0, none⟩)] w' (Quiet (.int .i64 (q2.length : Nat)) w')) := fun w' hb => ring_Len (R5.out.below hb) X5.out
          have HLS : Hid (∀ w', Below w5.heap.size w5 w' → Calls Try.prog 24 #[.pointer (some ⟨rb, 0, none⟩)] w' fun e w2 => ∃ u, e = .returned u ∧ w2.ownsRow w'.heap.size 22 1 u q2.length (kv .u64 q2) ∧ Below w'.heap.size w' w2) := fun w' hb => ring_List (R5.out.below hb) X5.out
          have HSM : Hid (∀ w' u, w'.ownsRow w5.heap.size 22 1 u q2.length (kv .u64 q2) → Below w5.heap.size w5 w' → Calls Try.prog 23 #[u, v2] w' (Quiet (.bool true) w')) := fun w' u hu hb => ref14_Same (Sl.of_own hu) ((Sl.of_own Q5.out.own).below hb)
          have c1 : w5.cell? ⟨qb, 1, none⟩ = some v2 := Q5.out.row.cell (by omega)
          have hqlt : qb < w5.heap.size := Q5.out.row.lt
          obtain ⟨A2, cap2, hv2, _, _⟩ := (Sl.of_own Q5.out.own).form
          subst hv2
          obtain ⟨L2, hL2⟩ : ∃ L, L = q2.length := ⟨_, rfl⟩
          rw [← hL2] at HLN HLS HSM c1
          have hll : ((L2 : Int) != (L2 : Int)) = false := by simp
          clear hL2
          go_wp2_with fail
          go_region_held3 (fun w' => w'.cell? ⟨qb, 1, none⟩ = some (.slice A2 L2 cap2)) (first | exact (hbu.cell (p := ⟨qb, 1, none⟩) (by go_size)).trans (by assumption) | go_keep) (first
            | (go_at_call 22; (with_reducible refine Calls.mono (HLN.out _ (by (repeat' (first | (with_reducible exact Below.refl _ _) | (with_reducible assumption) | (with_reducible refine Below.setCell ?_ ?_ _) | (with_reducible refine Below.alloc ?_ ?_ _) | (with_reducible refine below_drewN ?_ _) | (with_reducible refine Below.drew ?_) | go_size)))) ?_); rintro e w6 ⟨rfl, nq6, rfl⟩)
            | (go_at_call 24; (with_reducible refine Calls.mono (HLS.out _ (by (repeat' (first | (with_reducible exact Below.refl _ _) | (with_reducible assumption) | (with_reducible refine Below.setCell ?_ ?_ _) | (with_reducible refine Below.alloc ?_ ?_ _) | (with_reducible refine below_drewN ?_ _) | (with_reducible refine Below.drew ?_) | go_size)))) ?_); rintro e w7 ⟨u7, rfl, hu7, hbu⟩; have HB7 : Below w5.heap.size w5 w7 := Below.trans (by (repeat' (first | (with_reducible exact Below.refl _ _) | (with_reducible assumption) | (with_reducible refine Below.setCell ?_ ?_ _) | (with_reducible refine Below.alloc ?_ ?_ _) | (with_reducible refine below_drewN ?_ _) | (with_reducible refine Below.drew ?_) | go_size))) (hbu.mono (by go_size)); have HU7 := Lib.hid (own_base hu7 (base' := w5.heap.size) (by go_size)); clear hu7)
            | (go_at_call 23; (with_reducible refine Calls.mono (HSM.out _ _ HU7.out (by (repeat' (first | (with_reducible exact Below.refl _ _) | (with_reducible assumption) | (with_reducible refine Below.setCell ?_ ?_ _) | (with_reducible refine Below.alloc ?_ ?_ _) | (with_reducible refine below_drewN ?_ _) | (with_reducible refine Below.drew ?_) | go_size)))) ?_); rintro e w8 ⟨rfl, nq8, rfl⟩))
          all_goals
            have HB9 := Lib.hid HB7
            go_wp2
            go_roundw
            case rel => exact ⟨k + 1, by omega, by go_num, ⟨_, _, _, _, _, ⟨R5.out.below (below_drewN HB9.out _), Q5.out.below (below_drewN HB9.out _), X5.out, F5.out.1, F5.out.2.1, F5.out.2.2.1, F5.out.2.2.2.1, by have := F5.out.2.2.2.2; omega, below_drewN (B5.out.trans (HB9.out.mono B5.out.size)) _, hrq⟩⟩⟩
            case measure => simp [intOf]; omega
        · have hd := decide_eq_false hzn
          have HZ := Lib.hid hd
          have HZ2 := Lib.hid hzn
          rw [hd]
          rw [if_neg hzn] at Q2
          clear hd hzn
          go_wp2_with fail
          refine wp_region_held_drew (S := fun w' => w'.cell? ⟨b1, off + k, none⟩ = some (.int .u64 (xn : Int))) (by kernel_rfl) ?_ (fun hHeld => ?_)
          · exact HBW.out _ (B2'.out.drew)
          refine wpAnyH_take (i := 0) (oi := { dst := some 106, op := Go.Op.move (Go.Operand.tmp 17), type := 36, pos := "law.go:57", after := #[], guard := none }) (v := ?_) rfl (by kernel_rfl) (by kernel_rfl) (by kernel_rfl) (fun _ _ _ h => h) (Or.inl ⟨by rfl, ?_⟩) (by assumption) ?_
          rotate_left
          · intro w hSw
            (try dsimp only at hSw)
            go_simp
            try with_reducible rfl
          (try simp only [Act.put, List.setIfInBounds_toArray, List.set_cons_zero, List.set_cons_succ])
          refine wpAnyH_ready (rs := [1]) (by kernel_rfl) (by simp) ?_
          refine AllReadyH.cons (o := { dst := some 107, op := Go.Op.call { callee := Go.Callee.value (Go.Operand.func 17), args := #[Go.Operand.tmp 106], argTypes := #[36] }, type := 4, pos := "law.go:57", after := #[{ on := 0, ground := Go.Ground.data }], guard := none }) rfl (fun K hK => ?_) AllReadyH.nil
          go_simp
          refine Calls.mono (HFIN.out _ (Below.drew (Below.refl _ _))) ?_
          rintro e w5 ⟨g2, a2, p2, rfl, hr, ha, ht3, hl, hpu, hpo, hok, hnum, hrq2, hp2, _⟩
          have hok' : a2.ok = false := by rw [hok, HS.out.sz]; exact HZ.out
          have R5 := Lib.hid hr
          have HOK := act_Ok ha
          have HVA := act_Value ha
          rw [hok'] at HOK
          rw [if_neg (by rw [hok']; simp)] at HVA
          have HOK := Lib.hid HOK
          have HVA := Lib.hid HVA
          have Q5 := Lib.hid ((Q2.out.below (Below.drew (Below.refl _ _))).tch ht3 (by unfold RingD; have := HAB.out.2.1; omega) (fun j hj => by have := HX.out j hj; unfold RingD; omega))
          have B5 := Lib.hid (ht3.below (B2'.out.drew) (fun j hj => by unfold RingD at hj; have := HAB.out.1; omega) B2'.out.size)
          have X5 : Hid (RngQ g2 p2 t (ql)) := by rw [HS.out.sz, if_neg HZ2.out] at hrq2; exact hrq2
          have F5 : Hid (g2.pu = false ∧ g2.po = false ∧ g2.sz = n ∧ p2 ≤ k + 1 ∧ g2.m.t ≤ 14 + 8 * (k : Int)) := ⟨hpu, hpo.trans HS.out.po, hl.sz.trans HS.out.sz, by have := HS.out.pk; omega, by have := hl.t2; have := HS.out.tm; omega⟩
          clear hr ha ht3 hl hpu hpo hok hok' hnum hrq2 hp2
          refine hK.out _ _ ?_ (fun hHeld => ?_)
          · (try dsimp only)
            exact HBW.out _ B5.out
          clear hK K
          (try simp only [Act.put, List.setIfInBounds_toArray, List.set_cons_zero, List.set_cons_succ])
          refine wpAnyH_take (i := 2) (oi := { dst := some 108, op := Go.Op.unOp Go.UnOp.not 4 (Go.Operand.tmp 107), type := 4, pos := "law.go:57", after := #[{ on := 1, ground := Go.Ground.data }], guard := none }) (v := ?_) rfl (by kernel_rfl) (by kernel_rfl) (by kernel_rfl) (fun _ _ _ h => h) (Or.inl ⟨by rfl, ?_⟩) (by assumption) ?_
          rotate_left
          · intro w hSw
            (try dsimp only at hSw)
            go_simp
            try with_reducible rfl
          (try simp only [Act.put, List.setIfInBounds_toArray, List.set_cons_zero, List.set_cons_succ])
          refine wpAnyH_take (i := 3) (oi := { dst := some 109, op := Go.Op.move (Go.Operand.tmp 108), type := 4, pos := "law.go:57", after := #[{ on := 2, ground := Go.Ground.data }, { on := 1, ground := Go.Ground.chain }], guard := none }) (v := ?_) rfl (by kernel_rfl) (by kernel_rfl) (by kernel_rfl) (fun _ _ _ h => h) (Or.inl ⟨by rfl, ?_⟩) (by assumption) ?_
          rotate_left
          · intro w hSw
            (try dsimp only at hSw)
            go_simp
            try with_reducible rfl
          (try simp only [Act.put, List.setIfInBounds_toArray, List.set_cons_zero, List.set_cons_succ])
          refine wpAnyH_take (i := 4) (oi := { dst := some 110, op := Go.Op.move (Go.Operand.tmp 17), type := 36, pos := "law.go:57", after := #[{ on := 3, ground := Go.Ground.guard }], guard := some (3, false) }) (v := ?_) rfl (by kernel_rfl) (by kernel_rfl) (by kernel_rfl) (fun _ _ _ h => h) (Or.inl ⟨by rfl, ?_⟩) (by assumption) ?_
          rotate_left
          · intro w hSw
            (try dsimp only at hSw)
            go_simp
            try with_reducible rfl
          (try simp only [Act.put, List.setIfInBounds_toArray, List.set_cons_zero, List.set_cons_succ])
          refine wpAnyH_take (i := 6) (oi := { dst := some 112, op := Go.Op.move (Go.Operand.tmp 18), type := 4, pos := "law.go:57", after := #[{ on := 3, ground := Go.Ground.guard }], guard := some (3, false) }) (v := ?_) rfl (by kernel_rfl) (by kernel_rfl) (by kernel_rfl) (fun _ _ _ h => h) (Or.inl ⟨by rfl, ?_⟩) (by assumption) ?_
          rotate_left
          · intro w hSw
            (try dsimp only at hSw)
            go_simp
            try with_reducible rfl
          (try simp only [Act.put, List.setIfInBounds_toArray, List.set_cons_zero, List.set_cons_succ])
          refine wpAnyH_ready (rs := [5]) (by kernel_rfl) (by simp) ?_
          refine AllReadyH.cons (o := { dst := some 111, op := Go.Op.call { callee := Go.Callee.value (Go.Operand.func 18), args := #[Go.Operand.tmp 110], argTypes := #[36] }, type := 4, pos := "law.go:57", after := #[{ on := 4, ground := Go.Ground.data }, { on := 3, ground := Go.Ground.chain }, { on := 3, ground := Go.Ground.guard }], guard := some (3, false) }) rfl (fun K hK => ?_) AllReadyH.nil
          go_simp
          refine Calls.mono (HOK.out) ?_
          rintro e w6 ⟨rfl, rfl⟩
          refine hK.out _ _ ?_ (fun hHeld => ?_)
          · (try dsimp only)
            exact hHeld
          clear hK K
          (try simp only [Act.put, List.setIfInBounds_toArray, List.set_cons_zero, List.set_cons_succ])
          refine wpAnyH_take (i := 7) (oi := { dst := some 113, op := Go.Op.binOp Go.BinOp.neq 4 (Go.Operand.tmp 111) (Go.Operand.tmp 112) 4, type := 4, pos := "law.go:57", after := #[{ on := 5, ground := Go.Ground.data }, { on := 6, ground := Go.Ground.data }, { on := 3, ground := Go.Ground.guard }], guard := some (3, false) }) (v := ?_) rfl (by kernel_rfl) (by kernel_rfl) (by kernel_rfl) (fun _ _ _ h => h) (Or.inl ⟨by rfl, ?_⟩) (by assumption) ?_
          rotate_left
          · intro w hSw
            (try dsimp only at hSw)
            go_simp
            try with_reducible rfl
          (try simp only [Act.put, List.setIfInBounds_toArray, List.set_cons_zero, List.set_cons_succ])
          refine wpAnyH_take (i := 8) (oi := { dst := some 114, op := Go.Op.pick (Go.Operand.tmp 109) (Go.Operand.const (Go.Value.bool true)) (Go.Operand.tmp 113), type := 4, pos := "law.go:57", after := #[{ on := 3, ground := Go.Ground.data }, { on := 7, ground := Go.Ground.data }], guard := none }) (v := ?_) rfl (by kernel_rfl) (by kernel_rfl) (by kernel_rfl) (fun _ _ _ h => h) (Or.inl ⟨by rfl, ?_⟩) (by assumption) ?_
          rotate_left
          · intro w hSw
            (try dsimp only at hSw)
            go_simp
            try with_reducible rfl
          (try simp only [Act.put, List.setIfInBounds_toArray, List.set_cons_zero, List.set_cons_succ])
          refine wpAnyH_take (i := 9) (oi := { dst := some 115, op := Go.Op.move (Go.Operand.tmp 114), type := 4, pos := "law.go:57", after := #[{ on := 8, ground := Go.Ground.data }, { on := 5, ground := Go.Ground.chain }], guard := none }) (v := ?_) rfl (by kernel_rfl) (by kernel_rfl) (by kernel_rfl) (fun _ _ _ h => h) (Or.inl ⟨by rfl, ?_⟩) (by assumption) ?_
          rotate_left
          · intro w hSw
            (try dsimp only at hSw)
            go_simp
            try with_reducible rfl
          (try simp only [Act.put, List.setIfInBounds_toArray, List.set_cons_zero, List.set_cons_succ])
          refine wpAnyH_take (i := 10) (oi := { dst := some 116, op := Go.Op.move (Go.Operand.tmp 18), type := 4, pos := "law.go:57", after := #[{ on := 9, ground := Go.Ground.guard }], guard := some (9, false) }) (v := ?_) rfl (by kernel_rfl) (by kernel_rfl) (by kernel_rfl) (fun _ _ _ h => h) (Or.inl ⟨by rfl, ?_⟩) (by assumption) ?_
          rotate_left
          · intro w hSw
            (try dsimp only at hSw)
            go_simp
            try with_reducible rfl
          (try simp only [Act.put, List.setIfInBounds_toArray, List.set_cons_zero, List.set_cons_succ])
          refine wpAnyH_take (i := 11) (oi := { dst := some 117, op := Go.Op.move (Go.Operand.tmp 116), type := 4, pos := "law.go:57", after := #[{ on := 10, ground := Go.Ground.data }, { on := 9, ground := Go.Ground.chain }, { on := 9, ground := Go.Ground.guard }], guard := some (9, false) }) (v := ?_) rfl (by kernel_rfl) (by kernel_rfl) (by kernel_rfl) (fun _ _ _ h => h) (Or.inl ⟨by rfl, ?_⟩) (by assumption) ?_
          rotate_left
          · intro w hSw
            (try dsimp only at hSw)
            go_simp
            try with_reducible rfl
          (try simp only [Act.put, List.setIfInBounds_toArray, List.set_cons_zero, List.set_cons_succ])
          refine wpAnyH_take (i := 12) (oi := { dst := some 118, op := Go.Op.move (Go.Operand.tmp 17), type := 36, pos := "law.go:57", after := #[{ on := 11, ground := Go.Ground.guard }], guard := some (11, true) }) (v := undef) rfl (by kernel_rfl) (by kernel_rfl) (by kernel_rfl) (fun _ _ _ h => h) (Or.inr ⟨by rfl, rfl⟩) (by assumption) ?_
          (try simp only [Act.put, List.setIfInBounds_toArray, List.set_cons_zero, List.set_cons_succ])
          refine wpAnyH_take (i := 13) (oi := { dst := some 119, op := Go.Op.call { callee := Go.Callee.value (Go.Operand.func 19), args := #[Go.Operand.tmp 118], argTypes := #[36] }, type := 22, pos := "law.go:57", after := #[{ on := 12, ground := Go.Ground.data }, { on := 11, ground := Go.Ground.chain }, { on := 11, ground := Go.Ground.guard }], guard := some (11, true) }) (v := undef) rfl (by kernel_rfl) (by kernel_rfl) (by kernel_rfl) (fun _ _ _ h => h) (Or.inr ⟨by rfl, rfl⟩) (by assumption) ?_
          (try simp only [Act.put, List.setIfInBounds_toArray, List.set_cons_zero, List.set_cons_succ])
          refine wpAnyH_take (i := 14) (oi := { dst := some 120, op := Go.Op.move (Go.Operand.tmp 2), type := 23, pos := "law.go:57", after := #[{ on := 11, ground := Go.Ground.guard }], guard := some (11, true) }) (v := undef) rfl (by kernel_rfl) (by kernel_rfl) (by kernel_rfl) (fun _ _ _ h => h) (Or.inr ⟨by rfl, rfl⟩) (by assumption) ?_
          (try simp only [Act.put, List.setIfInBounds_toArray, List.set_cons_zero, List.set_cons_succ])
          refine wpAnyH_take (i := 15) (oi := { dst := some 121, op := Go.Op.move (Go.Operand.tmp 13), type := 3, pos := "law.go:57", after := #[{ on := 11, ground := Go.Ground.guard }], guard := some (11, true) }) (v := undef) rfl (by kernel_rfl) (by kernel_rfl) (by kernel_rfl) (fun _ _ _ h => h) (Or.inr ⟨by rfl, rfl⟩) (by assumption) ?_
          (try simp only [Act.put, List.setIfInBounds_toArray, List.set_cons_zero, List.set_cons_succ])
          refine wpAnyH_take (i := 16) (oi := { dst := some 122, op := Go.Op.indexAddr 23 (Go.Operand.tmp 120) (Go.Operand.tmp 121), type := 0, pos := "law.go:57", after := #[{ on := 14, ground := Go.Ground.data }, { on := 15, ground := Go.Ground.data }, { on := 11, ground := Go.Ground.guard }], guard := some (11, true) }) (v := undef) rfl (by kernel_rfl) (by kernel_rfl) (by kernel_rfl) (fun _ _ _ h => h) (Or.inr ⟨by rfl, rfl⟩) (by assumption) ?_
          (try simp only [Act.put, List.setIfInBounds_toArray, List.set_cons_zero, List.set_cons_succ])
          refine wpAnyH_take (i := 17) (oi := { dst := some 123, op := Go.Op.load 22 (Go.Operand.tmp 122), type := 22, pos := "law.go:57", after := #[{ on := 16, ground := Go.Ground.data }, { on := 11, ground := Go.Ground.guard }], guard := some (11, true) }) (v := undef) rfl (by kernel_rfl) (by kernel_rfl) (by kernel_rfl) (fun _ _ _ h => h) (Or.inr ⟨by rfl, rfl⟩) (by assumption) ?_
          (try simp only [Act.put, List.setIfInBounds_toArray, List.set_cons_zero, List.set_cons_succ])
          refine wpAnyH_take (i := 18) (oi := { dst := some 124, op := Go.Op.binOp Go.BinOp.neq 22 (Go.Operand.tmp 119) (Go.Operand.tmp 123) 22, type := 4, pos := "law.go:57", after := #[{ on := 13, ground := Go.Ground.data }, { on := 17, ground := Go.Ground.data }, { on := 11, ground := Go.Ground.guard }], guard := some (11, true) }) (v := undef) rfl (by kernel_rfl) (by kernel_rfl) (by kernel_rfl) (fun _ _ _ h => h) (Or.inr ⟨by rfl, rfl⟩) (by assumption) ?_
          (try simp only [Act.put, List.setIfInBounds_toArray, List.set_cons_zero, List.set_cons_succ])
          refine wpAnyH_take (i := 19) (oi := { dst := some 125, op := Go.Op.pick (Go.Operand.tmp 117) (Go.Operand.tmp 124) (Go.Operand.const (Go.Value.bool false)), type := 4, pos := "law.go:57", after := #[{ on := 11, ground := Go.Ground.data }, { on := 18, ground := Go.Ground.data }, { on := 9, ground := Go.Ground.guard }], guard := some (9, false) }) (v := ?_) rfl (by kernel_rfl) (by kernel_rfl) (by kernel_rfl) (fun _ _ _ h => h) (Or.inl ⟨by rfl, ?_⟩) (by assumption) ?_
          rotate_left
          · intro w hSw
            (try dsimp only at hSw)
            go_simp
            try with_reducible rfl
          (try simp only [Act.put, List.setIfInBounds_toArray, List.set_cons_zero, List.set_cons_succ])
          refine wpAnyH_take (i := 20) (oi := { dst := some 126, op := Go.Op.pick (Go.Operand.tmp 115) (Go.Operand.const (Go.Value.bool true)) (Go.Operand.tmp 125), type := 4, pos := "law.go:57", after := #[{ on := 9, ground := Go.Ground.data }, { on := 19, ground := Go.Ground.data }], guard := none }) (v := ?_) rfl (by kernel_rfl) (by kernel_rfl) (by kernel_rfl) (fun _ _ _ h => h) (Or.inl ⟨by rfl, ?_⟩) (by assumption) ?_
          rotate_left
          · intro w hSw
            (try dsimp only at hSw)
            go_simp
            try with_reducible rfl
          (try simp only [Act.put, List.setIfInBounds_toArray, List.set_cons_zero, List.set_cons_succ])
          refine wpAnyH_take (i := 21) (oi := { dst := some 127, op := Go.Op.move (Go.Operand.tmp 126), type := 4, pos := "law.go:57", after := #[{ on := 20, ground := Go.Ground.data }, { on := 13, ground := Go.Ground.chain }], guard := none }) (v := ?_) rfl (by kernel_rfl) (by kernel_rfl) (by kernel_rfl) (fun _ _ _ h => h) (Or.inl ⟨by rfl, ?_⟩) (by assumption) ?_
          rotate_left
          · intro w hSw
            (try dsimp only at hSw)
            go_simp
            try with_reducible rfl
          (try simp only [Act.put, List.setIfInBounds_toArray, List.set_cons_zero, List.set_cons_succ])
          refine wpAnyH_take (i := 22) (oi := { dst := some 128, op := Go.Op.move (Go.Operand.tmp 18), type := 4, pos := "law.go:57", after := #[{ on := 21, ground := Go.Ground.guard }], guard := some (21, false) }) (v := ?_) rfl (by kernel_rfl) (by kernel_rfl) (by kernel_rfl) (fun _ _ _ h => h) (Or.inl ⟨by rfl, ?_⟩) (by assumption) ?_
          rotate_left
          · intro w hSw
            (try dsimp only at hSw)
            go_simp
            try with_reducible rfl
          (try simp only [Act.put, List.setIfInBounds_toArray, List.set_cons_zero, List.set_cons_succ])
          refine wpAnyH_take (i := 23) (oi := { dst := some 129, op := Go.Op.unOp Go.UnOp.not 4 (Go.Operand.tmp 128), type := 4, pos := "law.go:57", after := #[{ on := 22, ground := Go.Ground.data }, { on := 21, ground := Go.Ground.guard }], guard := some (21, false) }) (v := ?_) rfl (by kernel_rfl) (by kernel_rfl) (by kernel_rfl) (fun _ _ _ h => h) (Or.inl ⟨by rfl, ?_⟩) (by assumption) ?_
          rotate_left
          · intro w hSw
            (try dsimp only at hSw)
            go_simp
            try with_reducible rfl
          (try simp only [Act.put, List.setIfInBounds_toArray, List.set_cons_zero, List.set_cons_succ])
          refine wpAnyH_take (i := 24) (oi := { dst := some 130, op := Go.Op.move (Go.Operand.tmp 129), type := 4, pos := "law.go:57", after := #[{ on := 23, ground := Go.Ground.data }, { on := 21, ground := Go.Ground.chain }, { on := 21, ground := Go.Ground.guard }], guard := some (21, false) }) (v := ?_) rfl (by kernel_rfl) (by kernel_rfl) (by kernel_rfl) (fun _ _ _ h => h) (Or.inl ⟨by rfl, ?_⟩) (by assumption) ?_
          rotate_left
          · intro w hSw
            (try dsimp only at hSw)
            go_simp
            try with_reducible rfl
          (try simp only [Act.put, List.setIfInBounds_toArray, List.set_cons_zero, List.set_cons_succ])
          refine wpAnyH_take (i := 25) (oi := { dst := some 131, op := Go.Op.move (Go.Operand.tmp 17), type := 36, pos := "law.go:57", after := #[{ on := 24, ground := Go.Ground.guard }], guard := some (24, true) }) (v := ?_) rfl (by kernel_rfl) (by kernel_rfl) (by kernel_rfl) (fun _ _ _ h => h) (Or.inl ⟨by rfl, ?_⟩) (by assumption) ?_
          rotate_left
          · intro w hSw
            (try dsimp only at hSw)
            go_simp
            try with_reducible rfl
          (try simp only [Act.put, List.setIfInBounds_toArray, List.set_cons_zero, List.set_cons_succ])
          refine wpAnyH_ready (rs := [26]) (by kernel_rfl) (by simp) ?_
          refine AllReadyH.cons (o := { dst := some 132, op := Go.Op.call { callee := Go.Callee.value (Go.Operand.func 19), args := #[Go.Operand.tmp 131], argTypes := #[36] }, type := 22, pos := "law.go:57", after := #[{ on := 25, ground := Go.Ground.data }, { on := 24, ground := Go.Ground.chain }, { on := 24, ground := Go.Ground.guard }], guard := some (24, true) }) rfl (fun K hK => ?_) AllReadyH.nil
          go_simp
          refine Calls.mono (HVA.out) ?_
          rintro e w7 ⟨rfl, rfl⟩
          refine hK.out _ _ ?_ (fun hHeld => ?_)
          · (try dsimp only)
            exact hHeld
          clear hK K
          (try simp only [Act.put, List.setIfInBounds_toArray, List.set_cons_zero, List.set_cons_succ])
          refine wpAnyH_take (i := 27) (oi := { dst := some 133, op := Go.Op.binOp Go.BinOp.neq 22 (Go.Operand.tmp 132) (Go.Operand.const (Go.Value.int Go.IntKind.u64 0)) 22, type := 4, pos := "law.go:57", after := #[{ on := 26, ground := Go.Ground.data }, { on := 24, ground := Go.Ground.guard }], guard := some (24, true) }) (v := ?_) rfl (by kernel_rfl) (by kernel_rfl) (by kernel_rfl) (fun _ _ _ h => h) (Or.inl ⟨by rfl, ?_⟩) (by assumption) ?_
          rotate_left
          · intro w hSw
            (try dsimp only at hSw)
            go_simp
            try with_reducible rfl
          (try simp only [Act.put, List.setIfInBounds_toArray, List.set_cons_zero, List.set_cons_succ])
          refine wpAnyH_take (i := 28) (oi := { dst := some 134, op := Go.Op.pick (Go.Operand.tmp 130) (Go.Operand.tmp 133) (Go.Operand.const (Go.Value.bool false)), type := 4, pos := "law.go:57", after := #[{ on := 24, ground := Go.Ground.data }, { on := 27, ground := Go.Ground.data }, { on := 21, ground := Go.Ground.guard }], guard := some (21, false) }) (v := ?_) rfl (by kernel_rfl) (by kernel_rfl) (by kernel_rfl) (fun _ _ _ h => h) (Or.inl ⟨by rfl, ?_⟩) (by assumption) ?_
          rotate_left
          · intro w hSw
            (try dsimp only at hSw)
            go_simp
            try with_reducible rfl
          (try simp only [Act.put, List.setIfInBounds_toArray, List.set_cons_zero, List.set_cons_succ])
          refine wpAnyH_take (i := 29) (oi := { dst := some 135, op := Go.Op.pick (Go.Operand.tmp 127) (Go.Operand.const (Go.Value.bool true)) (Go.Operand.tmp 134), type := 4, pos := "law.go:57", after := #[{ on := 21, ground := Go.Ground.data }, { on := 28, ground := Go.Ground.data }], guard := none }) (v := ?_) rfl (by kernel_rfl) (by kernel_rfl) (by kernel_rfl) (fun _ _ _ h => h) (Or.inl ⟨by rfl, ?_⟩) (by assumption) ?_
          rotate_left
          · intro w hSw
            (try dsimp only at hSw)
            go_simp
            try with_reducible rfl
          (try simp only [Act.put, List.setIfInBounds_toArray, List.set_cons_zero, List.set_cons_succ])
          refine wpAnyH_done (by kernel_rfl) ?_ _
          obtain ⟨q2, hq2⟩ : ∃ q2, q2 = ql := ⟨_, rfl⟩
          rw [← hq2] at X5 Q5
          clear hHeld hq2 HOK HVA HFIN R2 A2 Q2 B2' HX HAB HZ HZ2
          have HLN : Hid (∀ w', Below w5.heap.size w5 w' → Calls Try.prog 22 #[.pointer (some ⟨rb, 0, none⟩)] w' (Quiet (.int .i64 (q2.length : Nat)) w')) := fun w' hb => ring_Len (R5.out.below hb) X5.out
          have HLS : Hid (∀ w', Below w5.heap.size w5 w' → Calls Try.prog 24 #[.pointer (some ⟨rb, 0, none⟩)] w' fun e w2 => ∃ u, e = .returned u ∧ w2.ownsRow w'.heap.size 22 1 u q2.length (kv .u64 q2) ∧ Below w'.heap.size w' w2) := fun w' hb => ring_List (R5.out.below hb) X5.out
          have HSM : Hid (∀ w' u, w'.ownsRow w5.heap.size 22 1 u q2.length (kv .u64 q2) → Below w5.heap.size w5 w' → Calls Try.prog 23 #[u, v2] w' (Quiet (.bool true) w')) := fun w' u hu hb => ref14_Same (Sl.of_own hu) ((Sl.of_own Q5.out.own).below hb)
          have c1 : w5.cell? ⟨qb, 1, none⟩ = some v2 := Q5.out.row.cell (by omega)
          have hqlt : qb < w5.heap.size := Q5.out.row.lt
          obtain ⟨A2, cap2, hv2, _, _⟩ := (Sl.of_own Q5.out.own).form
          subst hv2
          obtain ⟨L2, hL2⟩ : ∃ L, L = q2.length := ⟨_, rfl⟩
          rw [← hL2] at HLN HLS HSM c1
          have hll : ((L2 : Int) != (L2 : Int)) = false := by simp
          clear hL2
          go_wp2_with fail
          go_region_held3 (fun w' => w'.cell? ⟨qb, 1, none⟩ = some (.slice A2 L2 cap2)) (first | exact (hbu.cell (p := ⟨qb, 1, none⟩) (by go_size)).trans (by assumption) | go_keep) (first
            | (go_at_call 22; (with_reducible refine Calls.mono (HLN.out _ (by (repeat' (first | (with_reducible exact Below.refl _ _) | (with_reducible assumption) | (with_reducible refine Below.setCell ?_ ?_ _) | (with_reducible refine Below.alloc ?_ ?_ _) | (with_reducible refine below_drewN ?_ _) | (with_reducible refine Below.drew ?_) | go_size)))) ?_); rintro e w6 ⟨rfl, nq6, rfl⟩)
            | (go_at_call 24; (with_reducible refine Calls.mono (HLS.out _ (by (repeat' (first | (with_reducible exact Below.refl _ _) | (with_reducible assumption) | (with_reducible refine Below.setCell ?_ ?_ _) | (with_reducible refine Below.alloc ?_ ?_ _) | (with_reducible refine below_drewN ?_ _) | (with_reducible refine Below.drew ?_) | go_size)))) ?_); rintro e w7 ⟨u7, rfl, hu7, hbu⟩; have HB7 : Below w5.heap.size w5 w7 := Below.trans (by (repeat' (first | (with_reducible exact Below.refl _ _) | (with_reducible assumption) | (with_reducible refine Below.setCell ?_ ?_ _) | (with_reducible refine Below.alloc ?_ ?_ _) | (with_reducible refine below_drewN ?_ _) | (with_reducible refine Below.drew ?_) | go_size))) (hbu.mono (by go_size)); have HU7 := Lib.hid (own_base hu7 (base' := w5.heap.size) (by go_size)); clear hu7)
            | (go_at_call 23; (with_reducible refine Calls.mono (HSM.out _ _ HU7.out (by (repeat' (first | (with_reducible exact Below.refl _ _) | (with_reducible assumption) | (with_reducible refine Below.setCell ?_ ?_ _) | (with_reducible refine Below.alloc ?_ ?_ _) | (with_reducible refine below_drewN ?_ _) | (with_reducible refine Below.drew ?_) | go_size)))) ?_); rintro e w8 ⟨rfl, nq8, rfl⟩))
          all_goals
            have HB9 := Lib.hid HB7
            go_wp2
            go_roundw
            case rel => exact ⟨k + 1, by omega, by go_num, ⟨_, _, _, _, _, ⟨R5.out.below (below_drewN HB9.out _), Q5.out.below (below_drewN HB9.out _), X5.out, F5.out.1, F5.out.2.1, F5.out.2.2.1, F5.out.2.2.2.1, by have := F5.out.2.2.2.2; omega, below_drewN (B5.out.trans (HB9.out.mono B5.out.size)) _, hrq⟩⟩⟩
            case measure => simp [intOf]; omega
    · have : k = N := by omega
      subst this
      rcases Nat.lt_or_ge k l2.length with h1 | h1
      · have hd1 : decide (k < l2.length) = true := by simpa using h1
        have hd2 : decide ((k : Int) < 400) = false := by have := HN.out; simp; omega
        clear h1
        go_wp2
        go_ret
        exact ⟨rfl, HS.out.bel⟩
      · have hd1 : decide (k < l2.length) = false := by simpa using h1
        clear h1
        go_wp2
        go_ret
        exact ⟨rfl, HS.out.bel⟩

set_option maxRecDepth 100000 in
/-- What the walk gives, for every argument: the row's own words. -/
theorem contract (H : Type) (enc : TypeId × Value → H) (W : World) (base : Nat) (args : Array Value) (ds gs : List (DataW H)) (before : List MemPlace)
    (hval : ∀ (j : Nat) t v, Try.f3.params[j]? = some t → args[j]? = some v → Value.okWide Try.prog W .any base t v)
    (hW : DataW.Whole enc Try.prog Try.f3.params.toList Rows.ringAloneSpec.vars false W args.toList ds gs before) :
    Calls Try.prog 3 args W fun e W' => ∃ v, e = .returned v ∧ Rows.ringAloneSpec.post enc Try.prog Try.f3 false true false false W args v W' := by
  have hW' := hW
  obtain ⟨p, q, hA0, hV, rfl, hfz, hnd⟩ := hW
  have hA : DataW.TrodAll enc Try.prog W 0 (fun _ => true) true Try.f3.params.toList args.toList ds p := hA0
  rw [Try.params3] at hA hval
  obtain ⟨v0, vs0, d0, ds0, p0, q0, hargs, rfl, rfl, h0, r0⟩ := trodAll_cons hA
  obtain ⟨v1, vs1, d1, ds1, p1, q1, rfl, rfl, rfl, h1, r1⟩ := trodAll_cons r0
  obtain ⟨v2, vs2, d2, ds2, p2, q2, rfl, rfl, rfl, h2, r2⟩ := trodAll_cons r1
  obtain ⟨rfl, rfl, rfl⟩ := trodAll_nil r2
  obtain rfl : args = #[v0, v1, v2] := by cases args; simp_all
  obtain ⟨a0, rfl, b0⟩ := open_i64 Try.underlying3 (hval 0 3 v0 rfl rfl) h0
  obtain ⟨a1, rfl, b1⟩ := open_u64 Try.underlying22 (hval 1 22 v1 rfl rfl) h1
  obtain ⟨l2, b2, c2⟩ := open_u64s Try.underlying23 Try.underlying22 (by kernel_rfl) (hval 2 23 v2 rfl rfl) h2
  refine (walk W a0 b0 a1 b1 v2 l2 b2 c2).mono fun e W' ⟨he, hb⟩ => ?_
  subst he
  exact close_true (by kernel_rfl) Try.underlying4 (by kernel_rfl) (by kernel_rfl) rfl rfl hW' hb

set_option maxRecDepth 100000 in
theorem lifted (os : Os) (started : os.Started) (H : Type) (enc : TypeId × Value → H) :
    ReturnsInHanded {} Try.checked os 3 .any (Rows.ringAloneSpec.pre6 enc Try.prog Try.f3 Rows.ringAloneRow.domain false) (Rows.ringAloneSpec.post enc Try.prog Try.f3 false true false false) := by
  refine returnsInHanded_of_change (C := Try.checked) own started (by kernel_rfl) Try.func3
    (ChangeSpec.witness6 (enc := enc) (C := Try.checked) false ⟨#[], #[.int .i64 0, .int .u64 0, .slice none 0 0], []⟩ 8 (by kernel_rfl) (by kernel_rfl) (by kernel_rfl) (by kernel_rfl)) ?_
  intro W base args ds gs before hval hW _ _
  exact contract H enc W base args ds gs before hval hW

theorem proved : Rows.RingAloneSaid :=
  OpenClaim.holds_of_wide 3 Try.f3 rfl rfl rfl rfl rfl rfl rfl ⟨rfl, rfl, rfl, rfl, rfl⟩ rfl rfl rfl rfl rfl (by kernel_rfl) Try.func3 (by kernel_rfl)
    (of_decide_eq_true (by kernel_rfl)) (by unfold Func.isWrapper; first | (rw [if_pos (by decide +kernel)]; kernel_rfl) | (rw [if_neg (by decide +kernel)]; exact ⟨rfl, rfl⟩))
    (fun os started H enc _ => lifted os started H enc)
#print axioms proved
end Go.Proofs.Ytfijjipdnejenaa.ringAlone
