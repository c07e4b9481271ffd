/-
  A memory, rings, a lane: how they are begun. No statement is proved here.
-/
import Derived.Test.YtpojnknhmpmhjaaLnE
import Derived.Test.YtpojnknhmpmhjaaMemN
set_option linter.unusedVariables false
namespace Go.Proofs.Ytpojnknhmpmhjaa
open Go.RowKit

def wldF (b : Nat) (v : Value) (l : Option Addr) : Nat → Value
  | 0 => .pointer (some ⟨b, 0, none⟩)
  | 1 => v
  | _ => .pointer l
theorem wld_alloc (w : World) (b : Nat) : (w.alloc (.cells #[.pointer (some ⟨b, 0, none⟩), .slice none 0 0, .pointer none] 75)).rowIs w.heap.size 75 3 (wldF b (.slice none 0 0) none) :=
  World.rowIs_alloc w #[.pointer (some ⟨b, 0, none⟩), .slice none 0 0, .pointer none] 75 (wldF b (.slice none 0 0) none) (fun i hi => by
    match i, hi with
    | 0, _ => rfl
    | 1, _ => rfl
    | 2, _ => rfl)
theorem wld_set1 {w : World} {wb b : Nat} {v v' : Value} {l : Option Addr} (h : w.rowIs wb 75 3 (wldF b v l)) : (w.setCell ⟨wb, 1, none⟩ v').rowIs wb 75 3 (wldF b v' l) :=
  (h.set 1 _).congr fun i hi => (by
    match i, hi with
    | 0, _ => rfl
    | 1, _ => rfl
    | 2, _ => rfl)
theorem wld_set2 {w : World} {wb b : Nat} {v : Value} {l l' : Option Addr} (h : w.rowIs wb 75 3 (wldF b v l)) : (w.setCell ⟨wb, 2, none⟩ (.pointer l')).rowIs wb 75 3 (wldF b v l') :=
  (h.set 2 _).congr fun i hi => (by
    match i, hi with
    | 0, _ => rfl
    | 1, _ => rfl
    | 2, _ => rfl)
/-- So many rings are begun, each of one size. -/
structure Begun (wr : World) (lo b wb sz k : Nat) (v : Value) (rbs : Nat → Nat) (G : Nat → RgS) (m : MemS) : Prop where
  row : wr.rowIs wb 75 3 (wldF b v none)
  own : wr.ownsRow (wb + 1) 28 1 v k (ptv (rp rbs) k)
  rings : RgsAt wr lo b k rbs G
  mem : MemAt wr 81 lo b m
  que : RgsQ k G m (fun _ => 0) (fun _ => 0) (fun _ => [])
  lo3 : lo + 3 ≤ wb
  gt : ∀ i, i < k → wb < rbs i
  ne : ∀ i, i < k → v.ownBlock ≠ some (rbs i)
  tm : m.t = 2 * (k : Int)
  C : m.C = 4224
  ba : ∀ i, i < k → (G i).ba = 66 * i ∧ (G i).sz = sz ∧ (G i).pu = false ∧ (G i).po = false
theorem own_touch {w w' : World} {lo B n size : Nat} {e : TypeId} {v : Value} {xs : List Value} (h : w.ownsRow B e size v n xs) (ht : Touch lo w w') (hB : lo + 3 ≤ B) : w'.ownsRow B e size v n xs :=
  own_tch (D := fun k => lo ≤ k ∧ k < lo + 3) h (Tch.of_touch ht fun k h1 h2 => ⟨h1, h2⟩) fun k hk hd => by have := (h.lt k hk).1; omega
/-- One more ring is there, and not yet in the row. -/
theorem Begun.more {wr w2 : World} {lo b wb sz k rb : Nat} {v : Value} {rbs : Nat → Nat} {G : Nat → RgS} {m : MemS} {st : Int} (h : Begun wr lo b wb sz k v rbs G m) (hk : k < 64) (hz : 1 ≤ sz) (hz2 : sz ≤ 64) (h0 : 0 ≤ st) (h1 : st < 18446744073709551616)
    (hr : RingAt w2 lo b rb (newR m (66 * k) sz st)) (hle : wr.heap.size ≤ rb) (ht : Touch lo wr w2) :
    w2.rowIs wb 75 3 (wldF b v none) ∧ w2.ownsRow (wb + 1) 28 1 v k (ptv (rp rbs) k) ∧ RgsAt w2 lo b (k + 1) (upd rbs k rb) (upd (fun i => withM (G i) (newM m (66 * k) st)) k (newR m (66 * k) sz st)) ∧ RgsQ (k + 1) (upd (fun i => withM (G i) (newM m (66 * k) st)) k (newR m (66 * k) sz st)) (newM m (66 * k) st) (fun _ => 0) (fun _ => 0) (fun _ => []) := by
  have hC := h.C
  have hCm : m.C ≤ 1048576 := by omega
  have hq := newQ (s := m) (ba := 66 * k) (sz := sz) (st := st) (by omega) hCm hz hz2 h0 h1
  have hwlt := h.row.lt
  have hrl : ∀ i, i < k → rbs i < wr.heap.size := fun i hi => (h.rings.ring i hi).lt
  refine ⟨h.row.of_block (ht.block _ hwlt (.inr h.lo3)), own_touch h.own ht (by have := h.lo3; omega), ⟨fun i hi => ?_, fun i j hi hj e => ?_⟩, fun i hi => ?_, fun i j hi hj hij => ?_, fun i hi => ?_⟩
  · by_cases e : i = k
    · subst e; rw [upd_same, upd_same]; exact hr
    · rw [upd_other _ e, upd_other _ e]
      have hi' := h.rings.ring i (by omega)
      exact ⟨hr.mem, hi'.row.of_block (ht.block _ hi'.lt (.inr hi'.out)), hi'.out, hi'.fits.withM (by show m.C = _; rw [h.que.mem i (by omega)])⟩
  · by_cases e1 : i = k <;> by_cases e2 : j = k
    · omega
    · rw [e1, upd_same, upd_other _ e2] at e; have := hrl j (by omega); omega
    · rw [e2, upd_same, upd_other _ e1] at e; have := hrl i (by omega); omega
    · rw [upd_other _ e1, upd_other _ e2] at e; exact h.rings.inj i j (by omega) (by omega) e
  · by_cases e : i = k
    · subst e; rw [upd_same]; rfl
    · rw [upd_other _ e]; rfl
  · by_cases e1 : i = k <;> by_cases e2 : j = k
    · omega
    · rw [e1, upd_same, upd_other _ e2]
      have := h.ba j (by omega)
      show 66 * k + 2 + sz ≤ (G j).ba ∨ (G j).ba + 2 + (G j).sz ≤ 66 * k
      omega
    · rw [e2, upd_same, upd_other _ e1]
      have := h.ba i (by omega)
      show (G i).ba + 2 + (G i).sz ≤ 66 * k ∨ 66 * k + 2 + sz ≤ (G i).ba
      omega
    · rw [upd_other _ e1, upd_other _ e2]
      exact h.que.apart i j (by omega) (by omega) hij
  · by_cases e : i = k
    · subst e; rw [upd_same]; exact hq
    · rw [upd_other _ e]
      have hi' := h.que.que i (by omega)
      have hb := h.ba i (by omega)
      refine hi'.withM (by show m.C = _; rw [h.que.mem i (by omega)]) fun x h2 h3 => ?_
      rw [h.que.mem i (by omega)]
      show (if x = 66 * k + 1 then st else if x = 66 * k then st else m.c x) = m.c x
      rw [if_neg (by omega), if_neg (by omega)]
/-- The row behind an append, and its storing. -/
theorem Begun.next {wr w2 w3 : World} {lo b wb sz k rb : Nat} {v v' : Value} {rbs : Nat → Nat} {G : Nat → RgS} {m : MemS} {st : Int} (h : Begun wr lo b wb sz k v rbs G m) (hk : k < 64) (hz : 1 ≤ sz) (hz2 : sz ≤ 64) (h0 : 0 ≤ st) (h1 : st < 18446744073709551616)
    (hr : RingAt w2 lo b rb (newR m (66 * k) sz st)) (hle : wr.heap.size ≤ rb) (ht : Touch lo wr w2) {o : Obj} (how : w3.ownsRow (wb + 1) 28 1 v' (k + 1) (ptv (rp rbs) k ++ [.pointer (some ⟨rb, 0, none⟩)])) (hg : (w2.alloc o).grownBy w3 v.ownBlock) (hl : v'.ownBlock = v.ownBlock ∨ v'.ownBlock = some (w2.alloc o).heap.size) :
    Begun (w3.setCell ⟨wb, 1, none⟩ v') lo b wb sz (k + 1) v' (upd rbs k rb) (upd (fun i => withM (G i) (newM m (66 * k) st)) k (newR m (66 * k) sz st)) (newM m (66 * k) st) := by
  obtain ⟨g1, g2, g3, g4⟩ := h.more hk hz hz2 h0 h1 hr hle ht
  have hrlt : rb < w2.heap.size := hr.lt
  have hlo := h.lo3
  have hwlt := h.row.lt
  have hsz := ht.size
  have hvb : ∀ j, v.ownBlock = some j → wb + 1 ≤ j ∧ j < wr.heap.size := h.own.lt
  have hT : Tch (fun x => v.ownBlock = some x) w2 w3 := (Tch.of_below ((Below.refl _ _).alloc (Nat.le_refl _) o)).trans ((Tch.grown hg fun j hj => hj).mono fun x _ hx => hx)
  have hT2 := (hT.mono (E := fun x => v.ownBlock = some x ∨ x = wb) fun x _ hx => .inl hx).setCell (p := ⟨wb, 1, none⟩) (.inr rfl) v'
  have hne : ∀ i, i < k + 1 → ¬ (v.ownBlock = some (upd rbs k rb i) ∨ upd rbs k rb i = wb) := fun i hi hd => by
    by_cases e : i = k
    · subst e
      rw [upd_same] at hd
      rcases hd with e | e
      · have := (hvb _ e).2; omega
      · omega
    · rw [upd_other _ e] at hd
      rcases hd with e' | e'
      · exact h.ne i (by omega) e'
      · have := h.gt i (by omega); omega
  have hlo' : ∀ x, lo ≤ x → x < lo + 3 → ¬ (v.ownBlock = some x ∨ x = wb) := fun x h1 h2 hd => by
    rcases hd with e | e
    · have := (hvb _ e).1; omega
    · omega
  have hrow3 : w3.rowIs wb 75 3 (wldF b v none) := rowIs_tch g1 hT fun e => by have := (hvb _ e).1; omega
  refine ⟨wld_set1 hrow3, ?_, g3.tch hT2 hlo' hne, ?_, g4, hlo, fun i hi => ?_, fun i hi e => ?_, ?_, h.C, fun i hi => ?_⟩
  · have := own_setCell (p := ⟨wb, 1, none⟩) how (by show wb < wb + 1; omega) v'
    rw [ptv_succ, ptv_congr (g := rp rbs) (fun i hi => by unfold rp; rw [upd_other _ (by omega)])]
    unfold rp at this ⊢
    rw [upd_same]
    exact this
  · exact (hr.mem).tch hT2 hlo'
  · by_cases e : i = k
    · subst e; rw [upd_same]; omega
    · rw [upd_other _ e]; exact h.gt i (by omega)
  · by_cases e' : i = k
    · subst e'
      rw [upd_same] at e
      rcases hl with hl | hl
      · rw [hl] at e; have := (hvb _ e).2; omega
      · rw [hl] at e
        simp at e
        omega
    · rw [upd_other _ e'] at e
      have := (h.rings.ring i (by omega)).lt
      rcases hl with hl | hl
      · rw [hl] at e; exact h.ne i (by omega) e
      · rw [hl] at e
        simp at e
        omega
  · show m.t + 1 + 1 = _
    rw [h.tm]; omega
  · by_cases e : i = k
    · subst e; rw [upd_same]; exact ⟨rfl, rfl, rfl, rfl⟩
    · rw [upd_other _ e]; exact h.ba i (by omega)
/-- All of it. -/
structure WAt (w : World) (wb lo b lb g cap n : Nat) (v : Value) (rbs : Nat → Nat) (G : Nat → RgS) (c : Nat) (tk : Bool) : Prop where
  row : w.rowIs wb 75 3 (wldF b v (some ⟨lb, 0, none⟩))
  own : w.ownsRow (wb + 1) 28 1 v n (ptv (rp rbs) n)
  lane : LaneAt w lb g n cap rbs c tk
  rings : RgsAt w lo b n rbs G
  lo3 : lo + 3 ≤ wb
  gt : ∀ i, i < n → wb < rbs i
  ne : ∀ i, i < n → v.ownBlock ≠ some (rbs i)
  vlt : ∀ k, v.ownBlock = some k → k < g
set_option maxRecDepth 20000 in
set_option maxHeartbeats 3200000 in
theorem law15_begin {n sz : Nat} (hn0 : 1 ≤ n) (hn : n ≤ 64) (hz : 1 ≤ sz) (hz2 : sz ≤ 64) (w : World) :
    Calls Try.prog 32 #[.int .i64 (n : Int), .int .i64 (sz : Int)] w fun e w' => ∃ wb b lb g cap v rbs G m, e = .returned (.pointer (some ⟨wb, 0, none⟩)) ∧ WAt w' wb w.heap.size b lb g cap n v rbs G 0 false ∧ RgsQ n G m (fun _ => 0) (fun _ => 0) (fun _ => []) ∧ m.t = 2 * (n : Int) ∧ m.C = 4224 ∧ (∀ i, i < n → (G i).sz = sz ∧ (G i).pu = false ∧ (G i).po = false) ∧ Below w.heap.size w w' := by
  have HN := Lib.hid (mem_New 4224 0 (by omega) (by omega) w)
  go_enter Try.func32, Try.ntmps32
  go_wp2_with fail
  refine (HN.out).mono ?_
  rintro e w1 ⟨b, rfl, hm, hb⟩
  have hz1 := hb.size
  have HB1 := Lib.hid (hb.alloc hb.size (.cells #[.pointer (some ⟨b, 0, none⟩), .slice none 0 0, .pointer none] 75))
  obtain ⟨wb, hwb⟩ : ∃ wb, wb = w1.heap.size := ⟨_, rfl⟩
  have HBG : Hid (Begun (w1.alloc (.cells #[.pointer (some ⟨b, 0, none⟩), .slice none 0 0, .pointer none] 75)) w.heap.size b wb sz 0 (.slice none 0 0) (fun _ => 0) (fun _ => ⟨newS 4224 0, 0, 0, 0, false, false⟩) (newS 4224 0)) := by
    rw [hwb]
    refine ⟨wld_alloc w1 b, World.ownsRow_nil _ _ _ _, ⟨fun i hi => absurd hi (by omega), fun i j hi _ _ => absurd hi (by omega)⟩, hm.alloc _, ⟨fun i hi => absurd hi (by omega), fun i j hi => absurd hi (by omega), fun i hi => absurd hi (by omega)⟩, ?_, fun i hi => absurd hi (by omega), fun i hi => absurd hi (by omega), rfl, rfl, fun i hi => absurd hi (by omega)⟩
    have := hm.lo_lt
    omega
  clear hm hb HN
  go_wp2
  obtain ⟨w2, hw2⟩ : ∃ w2, w2 = w1.alloc (.cells #[.pointer (some ⟨b, 0, none⟩), .slice none 0 0, .pointer none] 75) := ⟨_, rfl⟩
  rw [← hw2] at HB1 HBG ⊢
  rw [← hwb]
  clear hw2 hwb hz1
  go_loopw [8] (fun i wr => ∃ k : Nat, k ≤ n ∧ i = .int .i64 k ∧ ∃ v rbs G m, Hid (Begun wr w.heap.size b wb sz k v rbs G m) ∧ Hid (Below w.heap.size w wr)) (fun i _ => n - (intOf i).toNat)
  case atStart => exact ⟨0, by omega, rfl, _, _, _, _, HBG, HB1⟩
  case round =>
    obtain ⟨k, hk, rfl, v, rbs, G, m, HG, HB⟩ := hrel
    clear HBG HB1
    by_cases hlt : k < n
    · have hC := HG.out.C
      have htm := HG.out.tm
      have hlo := HG.out.lo3
      have hwlt := HG.out.row.lt
      obtain ⟨A, c, hv, hkc, hcm⟩ := (Sl.of_own HG.out.own).form
      subst hv
      unfold maxLen at hcm
      obtain ⟨S, hS0, hS1, HS⟩ : ∃ S : Int, 0 ≤ S ∧ S < 18446744073709551616 ∧ Hid (IntKind.u64.wrap ((k : Int) * 1000003 - 2) = S) := ⟨_, by rw [IntKind.wrap_u64]; omega, by rw [IntKind.wrap_u64]; omega, rfl⟩
      have hk64 : k < 64 := by omega
      have HRN := Lib.hid (ring_New HG.out.mem (by omega) (66 * k) sz (by omega) hz hz2 S)
      rw [show ((66 * k : Nat) : Int) = (k : Int) * 66 by omega] at HRN
      have E2 : Hid (IntKind.u64.wrap (k : Int) = (k : Int)) := by show _ = _; rw [IntKind.wrap_u64]; omega
      have E3 : Hid (IntKind.u64.wrap ((k : Int) * 1000003) = (k : Int) * 1000003) := by show _ = _; rw [IntKind.wrap_u64]; omega
      clear hC htm
      have e2 := E2.out
      have e3 := E3.out
      have e4 := HS.out
      clear E2 E3 HS
      go_wp2_with fail
      refine (HRN.out).mono ?_
      rintro e w3 ⟨rb, rfl, hr, hle, htt⟩
      clear e2 e3 e4
      obtain ⟨g1, g2, g3, g4⟩ := HG.out.more hk64 hz hz2 hS0 hS1 hr hle htt
      have HR := Lib.hid hr
      have HT := Lib.hid htt
      have HO := Lib.hid g2
      have hw3 : wb < w3.heap.size := g1.lt
      have q0 : w3.cell? ⟨wb, 1, none⟩ = some (.slice A k c) := g1.cell (by omega)
      have q1 : ∀ o, (w3.alloc o).cell? ⟨wb, 1, none⟩ = some (.slice A k c) := fun o => (World.cell?_alloc_lt _ _ _ (by show wb < _; omega)).trans q0
      have q2 : ∀ o, (w3.alloc o).frozen? ⟨wb, 1, none⟩ = false := fun o => (((Below.refl w3.heap.size w3).alloc (Nat.le_refl _) o).frozen (p := ⟨wb, 1, none⟩) hw3).trans (g1.frozen 1)
      have HNX : Hid (∀ v' w4 o, w4.ownsRow (wb + 1) 28 1 v' (k + 1) (ptv (rp rbs) k ++ [.pointer (some ⟨rb, 0, none⟩)]) → (w3.alloc o).grownBy w4 (Value.slice A k c).ownBlock → (v'.ownBlock = (Value.slice A k c).ownBlock ∨ v'.ownBlock = some (w3.alloc o).heap.size) → ∃ rbs' G' m', Begun (w4.setCell ⟨wb, 1, none⟩ v') w.heap.size b wb sz (k + 1) v' rbs' G' m') := fun v' w4 o x1 x2 x3 =>
        ⟨_, _, _, HG.out.next hk64 hz hz2 hS0 hS1 HR.out hle HT.out x1 x2 x3⟩
      have HBW : Hid (Below w.heap.size w w3) := HT.out.below HB.out (Nat.le_refl _) HB.out.size
      have hwz : w.heap.size ≤ wb := by omega
      clear hr htt g1 g2 g3 g4 HRN HG HB hS0 hS1 hle
      go_wp2_with (first
        | (at_builtin; refine wpList_apv _ rfl stRings _ _ rfl (wb + 1) (.slice A k c) k (ptv (rp rbs) k) rfl (HO.out.alloc _) (w3.heap.size + 1) _ 1 [.pointer (some ⟨rb, 0, none⟩)] rfl (Sl.lit_at (by rfl) rfl (by decide)) (by simp [Value.oneCell']) (by omega) (by go_size) ?_; intro A2 c2 w4 hown2 hgr2 hat2 hbel2; obtain ⟨hc1, hf1⟩ := bcell hbel2; have r1' := (hc1 wb 1 (by omega)).trans (q1 _); have f1' := (hf1 wb 1 (by omega)).trans (q2 _)))
      obtain ⟨rbs', G', m', hnx⟩ := HNX.out _ _ _ hown2 hgr2 hat2
      have HG2 := Lib.hid hnx
      have HB2 : Hid (Below w.heap.size w (w4.setCell ⟨wb, 1, none⟩ (.slice A2 (k + 1) c2))) := ((HBW.out.alloc HBW.out.size _).trans (hbel2.mono (by omega))).setCell (by show _ ≤ wb; omega) _
      clear hnx hown2 hgr2 hat2 hbel2 hc1 hf1 HNX HO HR HT q0 q1 q2
      go_wp2
      go_roundw
      case rel => exact ⟨k + 1, by omega, by go_num, _, rbs', G', m', HG2, HB2⟩
      case measure => simp [intOf]; omega
    · have hkn : k = n := by omega
      subst hkn
      obtain ⟨A, c, hv, hkc, hcm⟩ := (Sl.of_own HG.out.own).form
      subst hv
      have hwlt := HG.out.row.lt
      have q0 : wr.cell? ⟨wb, 1, none⟩ = some (.slice A k c) := HG.out.row.cell (by omega)
      have q1 : wr.cell? ⟨wb, 2, none⟩ = some (.pointer none) := HG.out.row.cell (by omega)
      have q2 : wr.frozen? ⟨wb, 2, none⟩ = false := HG.out.row.frozen 2
      have HLN := Lib.hid (lane_New (Sl.of_own HG.out.own) (Nat.le_refl _) hn0 hn (fun i hi => (HG.out.rings.ring i hi).lt) (asks_rings fun i hi => .inr ⟨rbs i, _, _, _, rfl, HG.out.rings.ring i hi, rfl⟩))
      go_wp2_with fail
      refine (HLN.out).mono ?_
      rintro e w3 ⟨lb, g, cap, rfl, hla, hg, hb3⟩
      have HLA := Lib.hid hla
      have HB3 := Lib.hid hb3
      have q1' := (hb3.cell (p := ⟨wb, 2, none⟩) hwlt).trans q1
      have q2' := (hb3.frozen (p := ⟨wb, 2, none⟩) hwlt).trans q2
      have hlb := hla.glt
      have HFIN : Hid (WAt (w3.setCell ⟨wb, 2, none⟩ (.pointer (some ⟨lb, 0, none⟩))) wb w.heap.size b lb g cap k (.slice A k c) rbs G 0 false) := by
        have hO := HG.out
        have hov := hO.own.lt
        refine ⟨wld_set2 (hO.row.of_block (hb3.block _ hwlt)), own_setCell (p := ⟨wb, 2, none⟩) (own_below hO.own hb3) (by show wb < wb + 1; omega) _, hla.setFar (by omega) (by omega) _ _, (hO.rings.below hb3).tch (D := fun x => x = wb) ((Tch.refl (fun x => x = wb) w3).setCell (p := ⟨wb, 2, none⟩) rfl _) (fun x h1 h2 h3 => by have := hO.lo3; omega) (fun i hi e => by have := hO.gt i hi; omega), hO.lo3, hO.gt, hO.ne, fun j hj => by have := (hov j hj).2; omega⟩
      have HBF : Hid (Below w.heap.size w (w3.setCell ⟨wb, 2, none⟩ (.pointer (some ⟨lb, 0, none⟩)))) := (HB.out.trans (hb3.mono HB.out.size)).setCell (by have := HG.out.lo3; show _ ≤ wb; omega) _
      clear hla hb3 HLN
      go_wp2
      go_ret
      exact ⟨wb, b, lb, g, cap, _, rbs, G, m, rfl, HFIN.out, HG.out.que, HG.out.tm, HG.out.C, fun i hi => (HG.out.ba i hi).2, HBF.out⟩
end Go.Proofs.Ytpojnknhmpmhjaa
