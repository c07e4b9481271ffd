/-
  How many numbers wait in a ring, and which; a new ring. No statement is proved here.
-/
import Derived.Test.YtpojnknhmpmhjaaRgG
import Derived.Test.YtpojnknhmpmhjaaMemT
set_option linter.unusedVariables false
namespace Go.Proofs.Ytpojnknhmpmhjaa
open Go.RowKit

theorem peek_q {w : World} {T : World} {lo b : Nat} {s : MemS} (hm : MemAt w 81 lo b s) {k : Nat} (hk : k < s.C) {x : Int} (hx : s.c k = x) (n : Nat) :
    Calls Try.prog 49 #[.pointer (some ⟨b, 0, none⟩), .int .i64 (k : Int)] (w.drewN n) fun e w' => e = .returned (.int .u64 x) ∧ ∃ m, w' = w.drewN m := by
  have := mem_Peek (k : Int) (hm.drewN n)
  rw [peekS_k hk, hx] at this
  exact this.mono fun _ _ ⟨h1, h2⟩ => ⟨h1, n, h2.symm⟩
theorem waiting_q {w : World} {lo b rb : Nat} {g : RgS} (h : RingAt w lo b rb g) {x y z : Int} (hz : waitN g.sz x y = z) (n : Nat) :
    Calls Try.prog 48 #[.pointer (some ⟨rb, 0, none⟩), .int .u64 x, .int .u64 y] (w.drewN n) fun e w' => e = .returned (.int .i64 z) ∧ ∃ m, w' = w.drewN m :=
  hz ▸ (ring_waiting (h.below (below_drewN (Below.refl _ _) n)) x y).mono fun _ _ ⟨h1, h2⟩ => ⟨h1, n, h2.symm⟩
set_option maxRecDepth 20000 in
set_option maxHeartbeats 1600000 in
theorem ring_Len {w : World} {lo b rb p t : Nat} {g : RgS} {q : List Int} (h : RingAt w lo b rb g) (hq : RngQ g p t q) :
    Calls Try.prog 22 #[.pointer (some ⟨rb, 0, none⟩)] w (Quiet (.int .i64 (q.length : Nat)) w) := by
  have HS := Lib.hid (ring_Size h)
  have hC0 : g.ba < g.m.C := by have := h.fits.cells; have := h.fits.one; omega
  have hC1 : g.ba + 1 < g.m.C := by have := h.fits.cells; have := h.fits.one; omega
  have hwt : waitN g.sz (g.m.c g.ba) (g.m.c (g.ba + 1)) = (q.length : Nat) := by rw [hq.cp, hq.ct, waitN_word g.sz g.st p t hq.tp hq.room hq.fits.most, hq.len]
  have hp1 := fun n => peek_q (T := w) h.mem hC0 rfl n
  have hp2 := fun n => peek_q (T := w) h.mem hC1 rfl n
  rw [show ((g.ba + 1 : Nat) : Int) = (g.ba : Int) + 1 from by omega] at hp2
  have hp3 := fun n => waiting_q h hwt n
  have hba : g.ba ≤ 1048576 := by have := h.fits.cells; have := h.fits.mem; omega
  have hb1 : IntKind.i64.wrap (g.ba : Int) = (g.ba : Int) := IntWalk.i64_in _ (by omega)
  have hb2 : wrap64 (g.ba : Int) = (g.ba : Int) := IntWalk.wrap64_in _ (by omega)
  have hb3 : IntKind.i64.wrap ((g.ba : Int) + 1) = (g.ba : Int) + 1 := IntWalk.i64_in _ (by omega)
  have hb4 : wrap64 ((g.ba : Int) + 1) = (g.ba : Int) + 1 := IntWalk.wrap64_in _ (by omega)
  obtain ⟨s0, s1, s2, s3, s4, s5, s6⟩ := h.at_
  have hzn : ((g.sz : Int) == 0) = false := by have := h.fits.one; simp; omega
  generalize g.m.c g.ba = X at *
  generalize g.m.c (g.ba + 1) = Y at *
  generalize q.length = N at *
  generalize g.ba = BA at *
  have H1 := Lib.hid hp1
  have H2 := Lib.hid hp2
  have H3 := Lib.hid hp3
  clear h hq hwt hp1 hp2 hp3 hba hC0 hC1 s2 s3 s4 s5 s6
  go_enter Try.func22, Try.ntmps22
  go_wp2_with fail
  refine (HS.out).mono ?_
  rintro e w1 ⟨rfl, rfl⟩
  go_wp2_with fail
  go_quiet (first | with_reducible exact H1.out _ | with_reducible exact H2.out _ | with_reducible exact H3.out _)
  go_wp2
  go_ret
  exact ⟨by first | rfl | (simp; done), _, rfl⟩
theorem ring_Len0 (w : World) : Calls Try.prog 22 #[.pointer none] w fun e w' => e = .returned (.int .i64 0) ∧ w = w' := by
  go_enter Try.func22, Try.ntmps22
  go_wp2_with fail
  refine (ring_Size0 _).mono ?_
  rintro e w1 ⟨rfl, rfl⟩
  go_wp2
  go_ret
  exact ⟨rfl, rfl⟩
theorem ring_List0 (w : World) : Calls Try.prog 24 #[.pointer none] w fun e w' => e = .returned (.slice none 0 0) ∧ w = w' := by
  go_enter Try.func24, Try.ntmps24
  go_wp2_with fail
  refine (ring_Len0 _).mono ?_
  rintro e w1 ⟨rfl, rfl⟩
  go_wp2
  go_loopw [3, 8] (fun o i wr => o = .slice none 0 0 ∧ i = .int .i64 0 ∧ wr = w) (fun _ _ _ => 0)
  case atStart => exact ⟨rfl, rfl, rfl⟩
  case round =>
    obtain ⟨rfl, rfl, rfl⟩ := hrel
    go_wp2
    go_ret
    exact ⟨rfl, rfl⟩

set_option maxRecDepth 20000 in
set_option maxHeartbeats 3200000 in
theorem ring_List {w : World} {lo b rb p t : Nat} {g : RgS} {q : List Int} (h : RingAt w lo b rb g) (hq : RngQ g p t q) :
    Calls Try.prog 24 #[.pointer (some ⟨rb, 0, none⟩)] w fun e w' => ∃ v, e = .returned v ∧ w'.ownsRow w.heap.size 22 1 v q.length (kv .u64 q) ∧ Below w.heap.size w w' := by
  have HLN := Lib.hid (ring_Len h hq)
  obtain ⟨s0, s1, s2, s3, s4, s5, s6⟩ := h.at_
  have hlt := h.lt
  have hn64 : q.length ≤ 64 := by have := hq.len; have := hq.room; have := hq.fits.most; omega
  have hC1 : g.ba + 1 < g.m.C := by have := h.fits.cells; have := h.fits.one; omega
  have hba : g.ba ≤ 1048576 := by have := h.fits.cells; have := h.fits.mem; omega
  have hb3 : IntKind.i64.wrap ((g.ba : Int) + 1) = (g.ba : Int) + 1 := IntWalk.i64_in _ (by omega)
  have hb4 : wrap64 ((g.ba : Int) + 1) = (g.ba : Int) + 1 := IntWalk.wrap64_in _ (by omega)
  have HP1 : Hid (∀ w' n, Below w.heap.size w w' → Calls Try.prog 49 #[.pointer (some ⟨b, 0, none⟩), .int .i64 ((g.ba : Int) + 1)] (w'.drewN n) fun e w2 => e = .returned (.int .u64 ((g.st + t) % 18446744073709551616)) ∧ ∃ m, w2 = w'.drewN m) := fun w' n hb => by
    have := peek_q (T := w) (h.mem.below hb) hC1 hq.ct n
    rwa [show ((g.ba + 1 : Nat) : Int) = (g.ba : Int) + 1 from by omega] at this
  have HP2 : Hid (∀ w' (i : Nat), i < q.length → Below w.heap.size w w' → Calls Try.prog 50 #[.pointer (some ⟨rb, 0, none⟩), .int .u64 ((g.st + ((t + i : Nat) : Int)) % 18446744073709551616)] w' (Quiet (.int .i64 ((g.ba + 2 + (t + i) % g.sz : Nat) : Int)) w')) := fun w' i hi hb => by
    have := ring_place (h.below hb) ((g.st + ((t + i : Nat) : Int)) % 18446744073709551616)
    rwa [placeN_word ⟨hq.st0, hq.st1⟩ (t + i) (by have := hq.len; have := hq.few; omega)] at this
  have HP3 : Hid (∀ w' (i : Nat) (x : Int), i < q.length → q.getD i 0 = x → Below w.heap.size w w' → Calls Try.prog 49 #[.pointer (some ⟨b, 0, none⟩), .int .i64 ((g.ba + 2 + (t + i) % g.sz : Nat) : Int)] w' fun e w2 => e = .returned (.int .u64 x) ∧ w' = w2) := fun w' i x hi hx hb => by
    have hlt : g.ba + 2 + (t + i) % g.sz < g.m.C := by have := h.fits.cells; have := Nat.mod_lt (t + i) (show 0 < g.sz from h.fits.one); omega
    have := mem_Peek ((g.ba + 2 + (t + i) % g.sz : Nat) : Int) (h.mem.below hb)
    rw [peekS_k hlt, hq.num i hi] at this
    rw [← hx, List.getD_eq_getElem?_getD, List.getElem?_eq_getElem hi]
    exact this
  have HW : Hid (∀ i : Nat, i < 64 → IntKind.u64.wrap (i : Int) = (i : Int) ∧ IntKind.u64.wrap ((g.st + (t : Int)) % 18446744073709551616 + (i : Int)) = (g.st + ((t + i : Nat) : Int)) % 18446744073709551616) := fun i hi => by
    rw [IntKind.wrap_u64, IntKind.wrap_u64]; omega
  have HT : Hid (∀ k, k < q.length → kv .u64 (q.take (k + 1)) = kv .u64 (q.take k) ++ [.int .u64 (q.getD k 0)]) := fun k hk => by
    rw [List.take_add_one, List.getElem?_eq_getElem hk, kv_append]
    simp [kv, List.getD_eq_getElem?_getD, List.getElem?_eq_getElem hk]
  obtain ⟨N, hN⟩ : ∃ N, N = q.length := ⟨_, rfl⟩
  rw [← hN] at HLN HP2 HP3 HT hn64
  have HQ : Hid (q.take N = q) := by show _ = _; rw [hN]; exact List.take_length
  have HLQ : Hid (∀ k, k ≤ N → (q.take k).length = k) := fun k hk => by rw [List.length_take]; omega
  have hst := h.row
  generalize (g.st + (t : Int)) % 18446744073709551616 = F at *
  generalize g.ba = BA at *
  rw [← hN]
  clear h hq hba hC1 hN s2 s3 s4 s5 s6 hst
  go_enter Try.func24, Try.ntmps24
  go_wp2_with fail
  refine (HLN.out).mono ?_
  rintro e w1 ⟨rfl, m0, rfl⟩
  go_wp2
  go_loopw [3, 8] (fun out i wr => ∃ k : Nat, k ≤ N ∧ i = .int .i64 k ∧ Hid (wr.ownsRow w.heap.size 22 1 out k (kv .u64 (q.take k))) ∧ Hid (Below w.heap.size w wr)) (fun _ i _ => N - (intOf i).toNat)
  case atStart => exact ⟨0, by omega, rfl, World.ownsRow_nil _ _ _ _, below_drewN (Below.refl _ _) _⟩
  case round =>
    obtain ⟨k, hk, rfl, HO, HB⟩ := hrel
    by_cases hlt2 : k < N
    · have g0 : (0 : Int) ≤ (k : Int) := Int.natCast_nonneg _
      have g1 : (k : Int) < (N : Int) := by omega
      obtain ⟨u1, u2⟩ := HW.out k (by omega)
      have s0' : wr.cell? ⟨rb, 0, none⟩ = some (.pointer (some ⟨b, 0, none⟩)) := (HB.out.cell (p := ⟨rb, 0, none⟩) hlt).trans s0
      have s1' : wr.cell? ⟨rb, 1, none⟩ = some (.int .i64 (BA : Nat)) := (HB.out.cell (p := ⟨rb, 1, none⟩) hlt).trans s1
      have HP1' := Lib.hid (fun n => HP1.out wr n HB.out)
      have HP2' := Lib.hid (fun w' hb => HP2.out w' k hlt2 hb)
      have HP3' := Lib.hid (fun w' hb => HP3.out w' k _ hlt2 rfl hb)
      have HT' := Lib.hid (HT.out k hlt2)
      have hsz := HB.out.size
      have hbw : Below w.heap.size w wr := HB.out
      generalize q.getD k 0 = X at *
      generalize (g.st + ((t + k : Nat) : Int)) % 18446744073709551616 = F2 at *
      generalize hPL : BA + 2 + (t + k) % g.sz = PL at *
      clear HP1 HP2 HP3 HT HW
      obtain ⟨A3, cq, hout, _, _⟩ := (Sl.of_own HO.out).form
      subst hout
      go_wp2_with fail
      go_quiet (with_reducible exact HP1'.out _)
      go_wp2_with fail
      go_region_held3 (fun w' => w'.cell? ⟨rb, 0, none⟩ = some (.pointer (some ⟨b, 0, none⟩))) (first | exact (hbel9.cell (p := ⟨rb, 0, none⟩) hlt).trans (by assumption) | go_keep) (first
        | (go_at_call 50; (with_reducible refine Calls.mono (HP2'.out _ (by (repeat' (first | (with_reducible exact Below.refl _ _) | (with_reducible assumption) | (with_reducible refine Below.setCell ?_ ?_ _) | (with_reducible refine Below.alloc ?_ ?_ _) | (with_reducible refine below_drewN ?_ _) | (with_reducible refine Below.drew ?_) | go_size)))) ?_); rintro e w2 ⟨rfl, nq2, rfl⟩)
        | (go_at_call 49; (with_reducible refine Calls.mono (HP3'.out _ (by (repeat' (first | (with_reducible exact Below.refl _ _) | (with_reducible assumption) | (with_reducible refine Below.setCell ?_ ?_ _) | (with_reducible refine Below.alloc ?_ ?_ _) | (with_reducible refine below_drewN ?_ _) | (with_reducible refine Below.drew ?_) | go_size)))) ?_); rintro e w3 ⟨rfl, rfl⟩)
        | (refine step_app _ (by rfl) stU64s _ _ (by rfl) w.heap.size _ k _ (by rfl) (own_below HO.out (by (repeat' (first | (with_reducible exact Below.refl _ _) | (with_reducible assumption) | (with_reducible refine Below.setCell ?_ ?_ _) | (with_reducible refine Below.alloc ?_ ?_ _) | (with_reducible refine below_drewN ?_ _) | (with_reducible refine Below.drew ?_) | go_size)))) _ _ 1 [.int .u64 X] (by rfl) (Sl.lit_at (by rfl) rfl (by decide)) (by simp [Value.oneCell']) (by omega) (by go_size) ?_; intro v9 w9 hown9 hgr9 hat9 hbel9))
      go_wp2
      go_roundw
      case rel => exact ⟨k + 1, by omega, by go_num, by rw [HT'.out]; exact hown9, ((below_drewN hbw _).alloc (by first | exact hsz | simpa using hsz) _).trans hbel9⟩
      case measure => simp [intOf]; omega
    · have : k = N := by omega
      subst this
      go_wp2
      go_ret
      exact ⟨_, rfl, by have := HO.out; rwa [HQ.out] at this, HB.out⟩

/-- The memory behind a ring's making. -/
def newM (s : MemS) (ba : Nat) (st : Int) : MemS := putC (tickS (putC (tickS s) ba st)) (ba + 1) st
def newR (s : MemS) (ba sz : Nat) (st : Int) : RgS := ⟨newM s ba st, ba, sz, st, false, false⟩
theorem newQ {s : MemS} {ba sz : Nat} {st : Int} (hC : ba + 2 + sz ≤ s.C) (hm : s.C ≤ 1048576) (hz : 1 ≤ sz) (hz2 : sz ≤ 64) (h0 : 0 ≤ st) (h1 : st < 18446744073709551616) : RngQ (newR s ba sz st) 0 0 [] := by
  refine ⟨⟨hC, hm, hz, hz2⟩, h0, h1, ?_, ?_, Nat.le_refl _, rfl, Nat.zero_le _, by omega, fun i h => absurd h (by simp)⟩
  · show (if ba = ba + 1 then st else if ba = ba then st else s.c ba) = (st + ((0 : Nat) : Int)) % 18446744073709551616
    rw [if_neg (by omega), if_pos rfl]; omega
  · show (if ba + 1 = ba + 1 then st else _) = (st + ((0 : Nat) : Int)) % 18446744073709551616
    rw [if_pos rfl]; omega
set_option maxRecDepth 20000 in
set_option maxHeartbeats 1600000 in
theorem ring_New {w : World} {lo b : Nat} {s : MemS} (hm : MemAt w 81 lo b s) (ht : s.t ≤ 4611686018427387900) (ba sz : Nat) (hC : ba + 2 + sz ≤ s.C) (hz : 1 ≤ sz) (hz2 : sz ≤ 64) (st : Int) :
    Calls Try.prog 12 #[.pointer (some ⟨b, 0, none⟩), .int .i64 (ba : Int), .int .i64 (sz : Int), .int .u64 st] w fun e w' => ∃ rb, e = .returned (.tuple #[.pointer (some ⟨rb, 0, none⟩), .int .i64 0]) ∧ RingAt w' lo b rb (newR s ba sz st) ∧ w.heap.size ≤ rb ∧ Touch lo w w' := by
  have hCm : s.C ≤ 1048576 := by obtain ⟨_, _, h⟩ := hm; exact h.cb
  have hlo := hm.lo_lt
  have hc := fun w => ring_Cells (sz : Int) w
  rw [show cellsI (sz : Int) = (sz : Int) + 2 from by unfold cellsI; rw [if_neg (by omega)]] at hc
  have HC := Lib.hid hc
  have HMC := Lib.hid (mem_Cells hm)
  have hs1 := mem_Store (ba : Int) st hm (by omega)
  rw [storeS_k (by omega)] at hs1
  have HS1 := Lib.hid hs1
  have HS2 : Hid (∀ w', MemAt w' 81 lo b (putC (tickS s) ba st) → Calls Try.prog 47 #[.pointer (some ⟨b, 0, none⟩), .int .i64 ((ba : Int) + 1), .int .u64 st] w' (MemDid 81 lo b (newM s ba st) (.tuple #[]) w')) := fun w' h => by
    have := mem_Store ((ba + 1 : Nat) : Int) st h (by show s.t + 1 ≤ _; omega)
    rw [storeS_k (by show ba + 1 < s.C; omega)] at this
    rwa [show ((ba + 1 : Nat) : Int) = (ba : Int) + 1 from by omega] at this
  have HA : Hid (∀ w', MemAt w' 81 lo b (newM s ba st) → lo + 3 ≤ w'.heap.size → RingAt (w'.alloc (.cells #[.pointer (some ⟨b, 0, none⟩), .int .i64 (ba : Int), .int .i64 (sz : Int), .int .u64 st, .bool false, .bool false] 84)) lo b w'.heap.size (newR s ba sz st)) := fun w' h hl =>
    ⟨h.alloc _, World.rowIs_alloc w' #[.pointer (some ⟨b, 0, none⟩), .int .i64 (ba : Int), .int .i64 (sz : Int), .int .u64 st, .bool false, .bool false] 84 (ringF b (newR s ba sz st)) (fun i hi => by
      match i, hi with
      | 0, _ => rfl
      | 1, _ => rfl
      | 2, _ => rfl
      | 3, _ => rfl
      | 4, _ => rfl
      | 5, _ => rfl), hl, ⟨hC, hCm, hz, hz2⟩⟩
  have d1 : (((sz : Int) + 2) == 0) = false := by simp; omega
  have d2 : decide ((ba : Int) < 0) = false := by simp
  have d3 : wrap64 ((s.C : Int) - ((sz : Int) + 2)) = (s.C : Int) - ((sz : Int) + 2) := IntWalk.wrap64_in _ (by omega)
  have d4 : decide ((ba : Int) > (s.C : Int) - ((sz : Int) + 2)) = false := by simp; omega
  have d4' : decide ((s.C : Int) - ((sz : Int) + 2) < (ba : Int)) = false := by simp; omega
  have d5 : wrap64 ((ba : Int) + 1) = (ba : Int) + 1 := IntWalk.wrap64_in _ (by omega)
  have d6 : wrap64 (ba : Int) = (ba : Int) := IntWalk.wrap64_in _ (by omega)
  clear hs1 hc hm ht
  generalize newR s ba sz st = G at *
  generalize newM s ba st = MM at *
  generalize putC (tickS s) ba st = MM1 at *
  generalize hCC : s.C = CC at *
  generalize hNN : (sz : Int) + 2 = NN at *
  clear hCC
  go_enter Try.func12, Try.ntmps12
  go_wp2_with fail
  refine (HC.out _).mono ?_
  rintro e w1 ⟨rfl, rfl⟩
  go_wp2_with fail
  refine (HMC.out).mono ?_
  rintro e w1 ⟨rfl, rfl⟩
  go_wp2_with fail
  refine (HS1.out).mono ?_
  rintro e w2 ⟨rfl, hm2, ht2⟩
  have HM2 := Lib.hid hm2
  have HT2 := Lib.hid ht2
  clear hm2 ht2
  go_wp2_with fail
  refine (HS2.out _ HM2.out).mono ?_
  rintro e w3 ⟨rfl, hm3, ht3⟩
  have HT3 := Lib.hid (HT2.out.trans ht3)
  have HR := Lib.hid (HA.out _ hm3 (by have := HT3.out.size; omega))
  clear hm3 ht3
  go_wp2
  go_ret2
  exact ⟨_, rfl, HR.out, HT3.out.size, HT3.out.alloc _⟩
theorem ring_NewBad {w : World} {lo b : Nat} {s : MemS} (hm : MemAt w 81 lo b s) (ba sz : Int) (hs : 0 < sz → sz ≤ 64 → 0 ≤ ba → (s.C : Int) - (sz + 2) < ba) (st : Int) :
    Calls Try.prog 12 #[.pointer (some ⟨b, 0, none⟩), .int .i64 ba, .int .i64 sz, .int .u64 st] w fun e w' => e = .returned (.tuple #[.pointer none, .int .i64 1]) ∧ w = w' := by
  have hCm : s.C ≤ 1048576 := by obtain ⟨_, _, h⟩ := hm; exact h.cb
  have hc := fun w => ring_Cells sz w
  have HMC := Lib.hid (mem_Cells hm)
  clear hm
  by_cases h1 : cellsI sz = 0
  · rw [h1] at hc
    have HC := Lib.hid hc
    clear hc h1 hs
    go_enter Try.func12, Try.ntmps12
    go_wp2_with fail
    refine (HC.out _).mono ?_
    rintro e w1 ⟨rfl, rfl⟩
    go_wp2
    go_ret2
    exact ⟨rfl, rfl⟩
  · have h2 : 0 < sz ∧ sz ≤ 64 ∧ cellsI sz = sz + 2 := by unfold cellsI at *; split at h1 <;> simp_all; omega
    obtain ⟨h3, h4, h5⟩ := h2
    have HC := Lib.hid hc
    have d1 : (cellsI sz == 0) = false := by simpa using h1
    rcases (show ba < 0 ∨ 0 ≤ ba by omega) with h6 | h6
    · have d2 : decide (ba < 0) = true := by simpa using h6
      clear hc h1 h5 hs
      generalize cellsI sz = NN at *
      go_enter Try.func12, Try.ntmps12
      go_wp2_with fail
      refine (HC.out _).mono ?_
      rintro e w1 ⟨rfl, rfl⟩
      go_wp2
      go_ret2
      exact ⟨rfl, rfl⟩
    · have d2 : decide (ba < 0) = false := by simpa using h6
      have h7 := hs h3 h4 h6
      rw [← h5] at h7
      have d3 : wrap64 ((s.C : Int) - cellsI sz) = (s.C : Int) - cellsI sz := IntWalk.wrap64_in _ (by omega)
      have d4 : decide (ba > (s.C : Int) - cellsI sz) = true := by simp; omega
      have d4' : decide ((s.C : Int) - cellsI sz < ba) = true := by simp; omega
      clear hc h1 h5 hs h7 hCm
      generalize cellsI sz = NN at *
      go_enter Try.func12, Try.ntmps12
      go_wp2_with fail
      refine (HC.out _).mono ?_
      rintro e w1 ⟨rfl, rfl⟩
      go_wp2_with fail
      refine (HMC.out).mono ?_
      rintro e w1 ⟨rfl, rfl⟩
      go_wp2
      go_ret2
      exact ⟨rfl, rfl⟩
theorem ring_NewNil (w : World) : Calls Try.prog 12 #[.pointer none, .int .i64 0, .int .i64 4, .int .u64 0] w fun e w' => e = .returned (.tuple #[.pointer none, .int .i64 1]) ∧ w = w' := by
  have hc := fun w => ring_Cells 4 w
  rw [show cellsI 4 = 6 from by decide] at hc
  have HC := Lib.hid hc
  clear hc
  go_enter Try.func12, Try.ntmps12
  go_wp2_with fail
  refine (HC.out _).mono ?_
  rintro e w1 ⟨rfl, rfl⟩
  go_wp2_with fail
  refine (nil_Cells _).mono ?_
  rintro e w1 ⟨rfl, rfl⟩
  go_wp2
  go_ret2
  exact ⟨rfl, rfl⟩
end Go.Proofs.Ytpojnknhmpmhjaa
