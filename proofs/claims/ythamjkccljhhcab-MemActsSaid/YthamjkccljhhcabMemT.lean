/-
  Layer 6's told; what is done by its number, at the program's memory and at the document's. No statement is proved here.
-/
import Derived.Test.YthamjkccljhhcabMemD
import Derived.Deep.QuietTactic
set_option linter.unusedVariables false
namespace Go.Proofs.Ythamjkccljhhcab
open Go.RowKit

theorem MemDid.at_ {T : TypeId} {lo b : Nat} {s s' : MemS} {v v' : Value} {w : World} {e : Ending} {w' : World} (h : MemDid T lo b s v w e w') (hv : v = v') (hs : s = s') : e = .returned v' ∧ MemAt w' T lo b s' ∧ Touch lo w w' := by
  subst hv hs; exact h
theorem MemAt.lo_lt {w : World} {T : TypeId} {lo b : Nat} {s : MemS} (h : MemAt w T lo b s) : lo + 3 ≤ w.heap.size := by
  obtain ⟨bc, bl, h⟩ := h
  have := h.own.lt
  have := h.cells.lt
  have := h.locks.lt
  have := h.b1
  have := h.b2
  have := h.c1
  have := h.c2
  have := h.l1
  have := h.l2
  have := h.n1
  have := h.n2
  have := h.n3
  omega

set_option maxHeartbeats 1600000 in
theorem told06 (w : World) : Calls Try.prog 14 #[] w (Says (.bool true) w) := by
  have HN := Lib.hid (mem_New 2 1 (by omega) (by omega) w)
  go_enter Try.func14, Try.ntmps14
  go_wp2_with fail
  refine (HN.out).mono ?_
  rintro e w1 ⟨b, rfl, hm, hb⟩
  have M1 := Lib.hid hm
  have B1 := Lib.hid hb
  clear hm hb
  go_wp2_with fail
  refine (Calls.mono (mem_Store 1 7 M1.out (by decide)) fun e w' h => h.at_ (v' := .tuple #[]) (rfl) rfl).mono ?_
  rintro e w2 ⟨rfl, hm, ht⟩
  have M2 := Lib.hid hm
  have B2 := Lib.hid (ht.below B1.out (Nat.le_refl _) B1.out.size)
  clear hm ht
  go_wp2_with fail
  refine (Calls.mono (mem_Take 0 5 M2.out (by decide)) fun e w' h => h.at_ (v' := .bool true) (congrArg Value.bool (by decide)) rfl).mono ?_
  rintro e w3 ⟨rfl, hm, ht⟩
  have M3 := Lib.hid hm
  have B3 := Lib.hid (ht.below B2.out (Nat.le_refl _) B2.out.size)
  clear hm ht
  go_wp2_with fail
  refine (Calls.mono (mem_Take 0 6 M3.out (by decide)) fun e w' h => h.at_ (v' := .bool false) (congrArg Value.bool (by decide)) rfl).mono ?_
  rintro e w4 ⟨rfl, hm, ht⟩
  have M4 := Lib.hid hm
  have B4 := Lib.hid (ht.below B3.out (Nat.le_refl _) B3.out.size)
  clear hm ht
  go_wp2_with fail
  refine (Calls.mono (mem_Free 0 6 M4.out (by decide)) fun e w' h => h.at_ (v' := .bool false) (congrArg Value.bool (by decide)) rfl).mono ?_
  rintro e w5 ⟨rfl, hm, ht⟩
  have M5 := Lib.hid hm
  have B5 := Lib.hid (ht.below B4.out (Nat.le_refl _) B4.out.size)
  clear hm ht
  go_wp2_with fail
  refine (mem_Holder 0 M5.out).mono ?_
  rintro e w5' ⟨rfl, rfl⟩
  rw [show holdS (freeS (takeS (takeS (storeS (newS 2 1) 1 7) 0 5) 0 6) 0 6) 0 = 5 from by decide]
  go_wp2_with fail
  refine (Calls.mono (mem_Free 0 5 M5.out (by decide)) fun e w' h => h.at_ (v' := .bool true) (congrArg Value.bool (by decide)) rfl).mono ?_
  rintro e w6 ⟨rfl, hm, ht⟩
  have M6 := Lib.hid hm
  have B6 := Lib.hid (ht.below B5.out (Nat.le_refl _) B5.out.size)
  clear hm ht
  go_wp2_with fail
  refine (Calls.mono (mem_Load 1 M6.out (by decide)) fun e w' h => h.at_ (v' := .int .u64 7) (congrArg (Value.int .u64) (by decide)) rfl).mono ?_
  rintro e w7 ⟨rfl, hm, ht⟩
  have M7 := Lib.hid hm
  have B7 := Lib.hid (ht.below B6.out (Nat.le_refl _) B6.out.size)
  clear hm ht
  go_wp2_with fail
  refine (mem_Time M7.out).mono ?_
  rintro e w7' ⟨rfl, rfl⟩
  rw [show MemS.t (loadS (freeS (freeS (takeS (takeS (storeS (newS 2 1) 1 7) 0 5) 0 6) 0 6) 0 5) 1) = 6 from by decide]
  go_wp2
  go_ret
  exact ⟨by simp, B7.out⟩

/-- What is done by its number: what it answers, and how the memory is then. -/
def opV (k : Nat) (a who : Int) (s : MemS) : Int :=
  if k = 0 then peekS s a else if k = 1 then 0 else if k = 2 then (if takeB s a who = true then 1 else 0) else if k = 3 then (if freeB s a who = true then 1 else 0) else if k = 4 then peekS s a else IntKind.u64.wrap (holdS s a)
def opS (k : Nat) (a who v : Int) (s : MemS) : MemS :=
  if k = 0 then loadS s a else if k = 1 then storeS s a v else if k = 2 then takeS s a who else if k = 3 then freeS s a who else s
theorem loadS_t (s : MemS) (i : Int) : (loadS s i).t ≤ s.t + 1 := by
  unfold loadS
  split
  · exact Int.le_refl _
  · omega
theorem storeS_t (s : MemS) (i v : Int) : (storeS s i v).t ≤ s.t + 1 := by
  unfold storeS
  split
  · exact Int.le_refl _
  · omega
theorem takeS_t (s : MemS) (l who : Int) : (takeS s l who).t ≤ s.t + 1 := by
  unfold takeS
  split
  · split
    · exact Int.le_refl _
    · exact Int.le_refl _
  · omega
theorem freeS_t (s : MemS) (l who : Int) : (freeS s l who).t ≤ s.t + 1 := by
  unfold freeS
  split
  · split
    · exact Int.le_refl _
    · exact Int.le_refl _
  · omega
theorem opS_t (k : Nat) (a who v : Int) (s : MemS) : (opS k a who v s).t ≤ s.t + 1 := by
  unfold opS
  split
  · exact loadS_t _ _
  · split
    · exact storeS_t _ _ _
    · split
      · exact takeS_t _ _ _
      · split
        · exact freeS_t _ _ _
        · omega

set_option maxHeartbeats 800000 in
theorem law6_do_0 (kd a who v : Int) (hk : wrap64 ((IntKind.u64.wrap kd).tmod 6) = 0) {w : World} {lo b : Nat} {s : MemS} (hm : MemAt w 62 lo b s) (ht : s.t ≤ 4611686018427387904) :
    Calls Try.prog 17 #[.pointer (some ⟨b, 0, none⟩), .agg #[.int .i64 kd, .int .i64 a, .int .i64 who, .int .u64 v]] w (MemDid 62 lo b (loadS s a) (.int .u64 (peekS s a)) w) := by
  have HM := Lib.hid (hm.alloc (.cells #[.int .i64 kd, .int .i64 a, .int .i64 who, .int .u64 v] 34))
  have HT := Lib.hid ht
  have HB := Lib.hid ((Touch.refl lo w).alloc (.cells #[.int .i64 kd, .int .i64 a, .int .i64 who, .int .u64 v] 34))
  clear hm ht
  go_enter Try.func17, Try.ntmps17
  go_wp2_with fail
  refine (mem_Load a HM.out HT.out).mono ?_
  rintro e w1 ⟨rfl, hm1, ht1⟩
  have HM1 := Lib.hid hm1
  have HT1 := Lib.hid (HB.out.trans ht1)
  clear hm1 ht1
  go_wp2
  go_ret
  exact ⟨rfl, HM1.out, HT1.out⟩

set_option maxHeartbeats 800000 in
theorem law6_do_1 (kd a who v : Int) (hk : wrap64 ((IntKind.u64.wrap kd).tmod 6) = 1) {w : World} {lo b : Nat} {s : MemS} (hm : MemAt w 62 lo b s) (ht : s.t ≤ 4611686018427387904) :
    Calls Try.prog 17 #[.pointer (some ⟨b, 0, none⟩), .agg #[.int .i64 kd, .int .i64 a, .int .i64 who, .int .u64 v]] w (MemDid 62 lo b (storeS s a v) (.int .u64 (0)) w) := by
  have HM := Lib.hid (hm.alloc (.cells #[.int .i64 kd, .int .i64 a, .int .i64 who, .int .u64 v] 34))
  have HT := Lib.hid ht
  have HB := Lib.hid ((Touch.refl lo w).alloc (.cells #[.int .i64 kd, .int .i64 a, .int .i64 who, .int .u64 v] 34))
  clear hm ht
  go_enter Try.func17, Try.ntmps17
  go_wp2_with fail
  refine (mem_Store a v HM.out HT.out).mono ?_
  rintro e w1 ⟨rfl, hm1, ht1⟩
  have HM1 := Lib.hid hm1
  have HT1 := Lib.hid (HB.out.trans ht1)
  clear hm1 ht1
  go_wp2
  go_ret
  exact ⟨rfl, HM1.out, HT1.out⟩

set_option maxHeartbeats 800000 in
theorem law6_do_2 (kd a who v : Int) (hk : wrap64 ((IntKind.u64.wrap kd).tmod 6) = 2) {w : World} {lo b : Nat} {s : MemS} (hm : MemAt w 62 lo b s) (ht : s.t ≤ 4611686018427387904) :
    Calls Try.prog 17 #[.pointer (some ⟨b, 0, none⟩), .agg #[.int .i64 kd, .int .i64 a, .int .i64 who, .int .u64 v]] w (MemDid 62 lo b (takeS s a who) (.int .u64 (if takeB s a who = true then 1 else 0)) w) := by
  have HM := Lib.hid (hm.alloc (.cells #[.int .i64 kd, .int .i64 a, .int .i64 who, .int .u64 v] 34))
  have HT := Lib.hid ht
  have HB := Lib.hid ((Touch.refl lo w).alloc (.cells #[.int .i64 kd, .int .i64 a, .int .i64 who, .int .u64 v] 34))
  clear hm ht
  cases hq : takeB s a who
  · rw [if_neg (by simp)]
    have HP := Lib.hid (Calls.mono (mem_Take a who HM.out HT.out) fun e w' h => h.at_ (v' := .bool false) (congrArg Value.bool hq) rfl)
    clear hq
    go_enter Try.func17, Try.ntmps17
    go_wp2_with fail
    refine (HP.out).mono ?_
    rintro e w1 ⟨rfl, hm1, ht1⟩
    have HM1 := Lib.hid hm1
    have HT1 := Lib.hid (HB.out.trans ht1)
    clear hm1 ht1
    go_wp2
    go_ret
    exact ⟨rfl, HM1.out, HT1.out⟩
  · rw [if_pos rfl]
    have HP := Lib.hid (Calls.mono (mem_Take a who HM.out HT.out) fun e w' h => h.at_ (v' := .bool true) (congrArg Value.bool hq) rfl)
    clear hq
    go_enter Try.func17, Try.ntmps17
    go_wp2_with fail
    refine (HP.out).mono ?_
    rintro e w1 ⟨rfl, hm1, ht1⟩
    have HM1 := Lib.hid hm1
    have HT1 := Lib.hid (HB.out.trans ht1)
    clear hm1 ht1
    go_wp2
    go_ret
    exact ⟨rfl, HM1.out, HT1.out⟩

set_option maxHeartbeats 800000 in
theorem law6_do_3 (kd a who v : Int) (hk : wrap64 ((IntKind.u64.wrap kd).tmod 6) = 3) {w : World} {lo b : Nat} {s : MemS} (hm : MemAt w 62 lo b s) (ht : s.t ≤ 4611686018427387904) :
    Calls Try.prog 17 #[.pointer (some ⟨b, 0, none⟩), .agg #[.int .i64 kd, .int .i64 a, .int .i64 who, .int .u64 v]] w (MemDid 62 lo b (freeS s a who) (.int .u64 (if freeB s a who = true then 1 else 0)) w) := by
  have HM := Lib.hid (hm.alloc (.cells #[.int .i64 kd, .int .i64 a, .int .i64 who, .int .u64 v] 34))
  have HT := Lib.hid ht
  have HB := Lib.hid ((Touch.refl lo w).alloc (.cells #[.int .i64 kd, .int .i64 a, .int .i64 who, .int .u64 v] 34))
  clear hm ht
  cases hq : freeB s a who
  · rw [if_neg (by simp)]
    have HP := Lib.hid (Calls.mono (mem_Free a who HM.out HT.out) fun e w' h => h.at_ (v' := .bool false) (congrArg Value.bool hq) rfl)
    clear hq
    go_enter Try.func17, Try.ntmps17
    go_wp2_with fail
    refine (HP.out).mono ?_
    rintro e w1 ⟨rfl, hm1, ht1⟩
    have HM1 := Lib.hid hm1
    have HT1 := Lib.hid (HB.out.trans ht1)
    clear hm1 ht1
    go_wp2
    go_ret
    exact ⟨rfl, HM1.out, HT1.out⟩
  · rw [if_pos rfl]
    have HP := Lib.hid (Calls.mono (mem_Free a who HM.out HT.out) fun e w' h => h.at_ (v' := .bool true) (congrArg Value.bool hq) rfl)
    clear hq
    go_enter Try.func17, Try.ntmps17
    go_wp2_with fail
    refine (HP.out).mono ?_
    rintro e w1 ⟨rfl, hm1, ht1⟩
    have HM1 := Lib.hid hm1
    have HT1 := Lib.hid (HB.out.trans ht1)
    clear hm1 ht1
    go_wp2
    go_ret
    exact ⟨rfl, HM1.out, HT1.out⟩

set_option maxHeartbeats 800000 in
theorem law6_do_4 (kd a who v : Int) (hk : wrap64 ((IntKind.u64.wrap kd).tmod 6) = 4) {w : World} {lo b : Nat} {s : MemS} (hm : MemAt w 62 lo b s) (ht : s.t ≤ 4611686018427387904) :
    Calls Try.prog 17 #[.pointer (some ⟨b, 0, none⟩), .agg #[.int .i64 kd, .int .i64 a, .int .i64 who, .int .u64 v]] w (MemDid 62 lo b (s) (.int .u64 (peekS s a)) w) := by
  have HM := Lib.hid (hm.alloc (.cells #[.int .i64 kd, .int .i64 a, .int .i64 who, .int .u64 v] 34))
  have HT := Lib.hid ht
  have HB := Lib.hid ((Touch.refl lo w).alloc (.cells #[.int .i64 kd, .int .i64 a, .int .i64 who, .int .u64 v] 34))
  clear hm ht
  have HP := Lib.hid (mem_Peek a HM.out)
  generalize peekS s a = R at *
  go_enter Try.func17, Try.ntmps17
  go_wp2_with fail
  refine (HP.out).mono ?_
  rintro e w1 ⟨rfl, rfl⟩
  go_wp2
  go_ret
  exact ⟨rfl, HM.out, HB.out⟩

set_option maxHeartbeats 800000 in
theorem law6_do_5 (kd a who v : Int) (hk : wrap64 ((IntKind.u64.wrap kd).tmod 6) = 5) {w : World} {lo b : Nat} {s : MemS} (hm : MemAt w 62 lo b s) (ht : s.t ≤ 4611686018427387904) :
    Calls Try.prog 17 #[.pointer (some ⟨b, 0, none⟩), .agg #[.int .i64 kd, .int .i64 a, .int .i64 who, .int .u64 v]] w (MemDid 62 lo b (s) (.int .u64 (IntKind.u64.wrap (holdS s a))) w) := by
  have HM := Lib.hid (hm.alloc (.cells #[.int .i64 kd, .int .i64 a, .int .i64 who, .int .u64 v] 34))
  have HT := Lib.hid ht
  have HB := Lib.hid ((Touch.refl lo w).alloc (.cells #[.int .i64 kd, .int .i64 a, .int .i64 who, .int .u64 v] 34))
  clear hm ht
  have HP := Lib.hid (mem_Holder a HM.out)
  generalize holdS s a = R at *
  go_enter Try.func17, Try.ntmps17
  go_wp2_with fail
  refine (HP.out).mono ?_
  rintro e w1 ⟨rfl, rfl⟩
  go_wp2
  go_ret
  exact ⟨rfl, HM.out, HB.out⟩

theorem law6_do (kd a who v : Int) (k : Nat) (hk6 : k < 6) (hk : wrap64 ((IntKind.u64.wrap kd).tmod 6) = (k : Int)) {w : World} {lo b : Nat} {s : MemS} (hm : MemAt w 62 lo b s) (ht : s.t ≤ 4611686018427387904) :
    Calls Try.prog 17 #[.pointer (some ⟨b, 0, none⟩), .agg #[.int .i64 kd, .int .i64 a, .int .i64 who, .int .u64 v]] w (MemDid 62 lo b (opS k a who v s) (.int .u64 (opV k a who s)) w) := by
  match k, hk6, hk with
  | 0, _, hk => exact law6_do_0 kd a who v hk hm ht
  | 1, _, hk => exact law6_do_1 kd a who v hk hm ht
  | 2, _, hk => exact law6_do_2 kd a who v hk hm ht
  | 3, _, hk => exact law6_do_3 kd a who v hk hm ht
  | 4, _, hk => exact law6_do_4 kd a who v hk hm ht
  | 5, _, hk => exact law6_do_5 kd a who v hk hm ht

set_option maxHeartbeats 800000 in
theorem law6_want_0 (kd a who v : Int) (hk : wrap64 ((IntKind.u64.wrap kd).tmod 6) = 0) {w : World} {lo b : Nat} {s : MemS} (hm : MemAt w 39 lo b s) (ht : s.t ≤ 4611686018427387904) :
    Calls Try.prog 18 #[.pointer (some ⟨b, 0, none⟩), .agg #[.int .i64 kd, .int .i64 a, .int .i64 who, .int .u64 v]] w (MemDid 39 lo b (loadS s a) (.int .u64 (peekS s a)) w) := by
  have HM := Lib.hid (hm.alloc (.cells #[.int .i64 kd, .int .i64 a, .int .i64 who, .int .u64 v] 34))
  have HT := Lib.hid ht
  have HB := Lib.hid ((Touch.refl lo w).alloc (.cells #[.int .i64 kd, .int .i64 a, .int .i64 who, .int .u64 v] 34))
  clear hm ht
  go_enter Try.func18, Try.ntmps18
  go_wp2_with fail
  refine (ref6_Load a HM.out HT.out).mono ?_
  rintro e w1 ⟨rfl, hm1, ht1⟩
  have HM1 := Lib.hid hm1
  have HT1 := Lib.hid (HB.out.trans ht1)
  clear hm1 ht1
  go_wp2
  go_ret
  exact ⟨rfl, HM1.out, HT1.out⟩

set_option maxHeartbeats 800000 in
theorem law6_want_1 (kd a who v : Int) (hk : wrap64 ((IntKind.u64.wrap kd).tmod 6) = 1) {w : World} {lo b : Nat} {s : MemS} (hm : MemAt w 39 lo b s) (ht : s.t ≤ 4611686018427387904) :
    Calls Try.prog 18 #[.pointer (some ⟨b, 0, none⟩), .agg #[.int .i64 kd, .int .i64 a, .int .i64 who, .int .u64 v]] w (MemDid 39 lo b (storeS s a v) (.int .u64 (0)) w) := by
  have HM := Lib.hid (hm.alloc (.cells #[.int .i64 kd, .int .i64 a, .int .i64 who, .int .u64 v] 34))
  have HT := Lib.hid ht
  have HB := Lib.hid ((Touch.refl lo w).alloc (.cells #[.int .i64 kd, .int .i64 a, .int .i64 who, .int .u64 v] 34))
  clear hm ht
  go_enter Try.func18, Try.ntmps18
  go_wp2_with fail
  refine (ref6_Store a v HM.out HT.out).mono ?_
  rintro e w1 ⟨rfl, hm1, ht1⟩
  have HM1 := Lib.hid hm1
  have HT1 := Lib.hid (HB.out.trans ht1)
  clear hm1 ht1
  go_wp2
  go_ret
  exact ⟨rfl, HM1.out, HT1.out⟩

set_option maxHeartbeats 800000 in
theorem law6_want_2 (kd a who v : Int) (hk : wrap64 ((IntKind.u64.wrap kd).tmod 6) = 2) {w : World} {lo b : Nat} {s : MemS} (hm : MemAt w 39 lo b s) (ht : s.t ≤ 4611686018427387904) :
    Calls Try.prog 18 #[.pointer (some ⟨b, 0, none⟩), .agg #[.int .i64 kd, .int .i64 a, .int .i64 who, .int .u64 v]] w (MemDid 39 lo b (takeS s a who) (.int .u64 (if takeB s a who = true then 1 else 0)) w) := by
  have HM := Lib.hid (hm.alloc (.cells #[.int .i64 kd, .int .i64 a, .int .i64 who, .int .u64 v] 34))
  have HT := Lib.hid ht
  have HB := Lib.hid ((Touch.refl lo w).alloc (.cells #[.int .i64 kd, .int .i64 a, .int .i64 who, .int .u64 v] 34))
  clear hm ht
  cases hq : takeB s a who
  · rw [if_neg (by simp)]
    have HP := Lib.hid (Calls.mono (ref6_Take a who HM.out HT.out) fun e w' h => h.at_ (v' := .bool false) (congrArg Value.bool hq) rfl)
    clear hq
    go_enter Try.func18, Try.ntmps18
    go_wp2_with fail
    refine (HP.out).mono ?_
    rintro e w1 ⟨rfl, hm1, ht1⟩
    have HM1 := Lib.hid hm1
    have HT1 := Lib.hid (HB.out.trans ht1)
    clear hm1 ht1
    go_wp2
    go_ret
    exact ⟨rfl, HM1.out, HT1.out⟩
  · rw [if_pos rfl]
    have HP := Lib.hid (Calls.mono (ref6_Take a who HM.out HT.out) fun e w' h => h.at_ (v' := .bool true) (congrArg Value.bool hq) rfl)
    clear hq
    go_enter Try.func18, Try.ntmps18
    go_wp2_with fail
    refine (HP.out).mono ?_
    rintro e w1 ⟨rfl, hm1, ht1⟩
    have HM1 := Lib.hid hm1
    have HT1 := Lib.hid (HB.out.trans ht1)
    clear hm1 ht1
    go_wp2
    go_ret
    exact ⟨rfl, HM1.out, HT1.out⟩

set_option maxHeartbeats 800000 in
theorem law6_want_3 (kd a who v : Int) (hk : wrap64 ((IntKind.u64.wrap kd).tmod 6) = 3) {w : World} {lo b : Nat} {s : MemS} (hm : MemAt w 39 lo b s) (ht : s.t ≤ 4611686018427387904) :
    Calls Try.prog 18 #[.pointer (some ⟨b, 0, none⟩), .agg #[.int .i64 kd, .int .i64 a, .int .i64 who, .int .u64 v]] w (MemDid 39 lo b (freeS s a who) (.int .u64 (if freeB s a who = true then 1 else 0)) w) := by
  have HM := Lib.hid (hm.alloc (.cells #[.int .i64 kd, .int .i64 a, .int .i64 who, .int .u64 v] 34))
  have HT := Lib.hid ht
  have HB := Lib.hid ((Touch.refl lo w).alloc (.cells #[.int .i64 kd, .int .i64 a, .int .i64 who, .int .u64 v] 34))
  clear hm ht
  cases hq : freeB s a who
  · rw [if_neg (by simp)]
    have HP := Lib.hid (Calls.mono (ref6_Free a who HM.out HT.out) fun e w' h => h.at_ (v' := .bool false) (congrArg Value.bool hq) rfl)
    clear hq
    go_enter Try.func18, Try.ntmps18
    go_wp2_with fail
    refine (HP.out).mono ?_
    rintro e w1 ⟨rfl, hm1, ht1⟩
    have HM1 := Lib.hid hm1
    have HT1 := Lib.hid (HB.out.trans ht1)
    clear hm1 ht1
    go_wp2
    go_ret
    exact ⟨rfl, HM1.out, HT1.out⟩
  · rw [if_pos rfl]
    have HP := Lib.hid (Calls.mono (ref6_Free a who HM.out HT.out) fun e w' h => h.at_ (v' := .bool true) (congrArg Value.bool hq) rfl)
    clear hq
    go_enter Try.func18, Try.ntmps18
    go_wp2_with fail
    refine (HP.out).mono ?_
    rintro e w1 ⟨rfl, hm1, ht1⟩
    have HM1 := Lib.hid hm1
    have HT1 := Lib.hid (HB.out.trans ht1)
    clear hm1 ht1
    go_wp2
    go_ret
    exact ⟨rfl, HM1.out, HT1.out⟩

set_option maxHeartbeats 800000 in
theorem law6_want_4 (kd a who v : Int) (hk : wrap64 ((IntKind.u64.wrap kd).tmod 6) = 4) {w : World} {lo b : Nat} {s : MemS} (hm : MemAt w 39 lo b s) (ht : s.t ≤ 4611686018427387904) :
    Calls Try.prog 18 #[.pointer (some ⟨b, 0, none⟩), .agg #[.int .i64 kd, .int .i64 a, .int .i64 who, .int .u64 v]] w (MemDid 39 lo b (s) (.int .u64 (peekS s a)) w) := by
  have HM := Lib.hid (hm.alloc (.cells #[.int .i64 kd, .int .i64 a, .int .i64 who, .int .u64 v] 34))
  have HT := Lib.hid ht
  have HB := Lib.hid ((Touch.refl lo w).alloc (.cells #[.int .i64 kd, .int .i64 a, .int .i64 who, .int .u64 v] 34))
  clear hm ht
  have HP := Lib.hid (ref6_Peek a HM.out)
  generalize peekS s a = R at *
  go_enter Try.func18, Try.ntmps18
  go_wp2_with fail
  refine (HP.out).mono ?_
  rintro e w1 ⟨rfl, rfl⟩
  go_wp2
  go_ret
  exact ⟨rfl, HM.out, HB.out⟩

set_option maxHeartbeats 800000 in
theorem law6_want_5 (kd a who v : Int) (hk : wrap64 ((IntKind.u64.wrap kd).tmod 6) = 5) {w : World} {lo b : Nat} {s : MemS} (hm : MemAt w 39 lo b s) (ht : s.t ≤ 4611686018427387904) :
    Calls Try.prog 18 #[.pointer (some ⟨b, 0, none⟩), .agg #[.int .i64 kd, .int .i64 a, .int .i64 who, .int .u64 v]] w (MemDid 39 lo b (s) (.int .u64 (IntKind.u64.wrap (holdS s a))) w) := by
  have HM := Lib.hid (hm.alloc (.cells #[.int .i64 kd, .int .i64 a, .int .i64 who, .int .u64 v] 34))
  have HT := Lib.hid ht
  have HB := Lib.hid ((Touch.refl lo w).alloc (.cells #[.int .i64 kd, .int .i64 a, .int .i64 who, .int .u64 v] 34))
  clear hm ht
  have HP := Lib.hid (ref6_Holder a HM.out)
  generalize holdS s a = R at *
  go_enter Try.func18, Try.ntmps18
  go_wp2_with fail
  refine (HP.out).mono ?_
  rintro e w1 ⟨rfl, rfl⟩
  go_wp2
  go_ret
  exact ⟨rfl, HM.out, HB.out⟩

theorem law6_want (kd a who v : Int) (k : Nat) (hk6 : k < 6) (hk : wrap64 ((IntKind.u64.wrap kd).tmod 6) = (k : Int)) {w : World} {lo b : Nat} {s : MemS} (hm : MemAt w 39 lo b s) (ht : s.t ≤ 4611686018427387904) :
    Calls Try.prog 18 #[.pointer (some ⟨b, 0, none⟩), .agg #[.int .i64 kd, .int .i64 a, .int .i64 who, .int .u64 v]] w (MemDid 39 lo b (opS k a who v s) (.int .u64 (opV k a who s)) w) := by
  match k, hk6, hk with
  | 0, _, hk => exact law6_want_0 kd a who v hk hm ht
  | 1, _, hk => exact law6_want_1 kd a who v hk hm ht
  | 2, _, hk => exact law6_want_2 kd a who v hk hm ht
  | 3, _, hk => exact law6_want_3 kd a who v hk hm ht
  | 4, _, hk => exact law6_want_4 kd a who v hk hm ht
  | 5, _, hk => exact law6_want_5 kd a who v hk hm ht
end Go.Proofs.Ythamjkccljhhcab
