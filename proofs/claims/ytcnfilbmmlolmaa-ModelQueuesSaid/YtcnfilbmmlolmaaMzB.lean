/-
  Several texts in one: KeyR, SlotB, KeyC, SlotC, BuN, BuO, BkE, BkF, BkG, BkH, BkI, BkJ, TicksB, BuQ, BkK. No statement is proved here.
-/
import Derived.Test.YtcnfilbmmlolmaaKeyB
import Derived.Test.YtcnfilbmmlolmaaSlotA
import Derived.Test.YtcnfilbmmlolmaaKeyA
import Derived.Test.YtcnfilbmmlolmaaKeyD
import Derived.Deep.RegionHeld3
import Derived.Test.YtcnfilbmmlolmaaBuF
import Derived.Test.YtcnfilbmmlolmaaBuB
import Derived.Test.YtcnfilbmmlolmaaBkD
import Derived.Test.YtcnfilbmmlolmaaBkC
import Derived.Test.YtcnfilbmmlolmaaMzA
import Derived.Test.YtcnfilbmmlolmaaBuG
import Derived.Test.YtcnfilbmmlolmaaBuI
set_option linter.unusedVariables false
namespace Go.Proofs.Ytcnfilbmmlolmaa
section
open Go.RowKit

end
section
open Go.RowKit

def slotT (a b : Nat) : Value :=
  if okE a b = true then .tuple #[.agg #[.int .i64 (vidW a : Int), .int .u64 (macW a : Nat), .int .i64 ((b % 256 : Nat) : Int), .bool (decide (b / 256 % 2 = 1)), .int .u32 ((b / 4294967296 : Nat) : Int)], .bool true]
  else .tuple #[.agg #[.int .i64 0, .int .u64 0, .int .i64 0, .bool false, .int .u32 0], .bool false]
theorem slotT_no {a b : Nat} (h : okE a b = false) : slotT a b = .tuple #[.agg #[.int .i64 0, .int .u64 0, .int .i64 0, .bool false, .int .u32 0], .bool false] := by
  unfold slotT; rw [h]; rfl
theorem slotT_yes {a b : Nat} (h : okE a b = true) : slotT a b = .tuple #[.agg #[.int .i64 (vidW a : Int), .int .u64 (macW a : Nat), .int .i64 ((b % 256 : Nat) : Int), .bool (decide (b / 256 % 2 = 1)), .int .u32 ((b / 4294967296 : Nat) : Int)], .bool true] := if_pos h
theorem okE_key {a b : Nat} (h : okW a = false) : okE a b = false := by unfold okE; rw [h]; rfl

end
section
open Go.RowKit

set_option maxHeartbeats 400000 in
theorem law8_To (v m : Int) (w : World) :
    Calls Try.prog 69 #[.agg #[.int .i64 v, .int .u64 m]] w (Says (.agg #[.int .i64 v, .int .u64 m]) w) := by
  go_enter Try.func69, Try.ntmps69
  go_wp2
  exact bodyPost_ret (v := .agg #[.int .i64 v, .int .u64 m]) (by simp [results, Try.results69, go_sem]) rfl ⟨rfl, (by (repeat' (first | (with_reducible exact Below.refl _ _) | (with_reducible assumption) | (with_reducible refine Below.setCell ?_ ?_ _) | (with_reducible refine Below.alloc ?_ ?_ _) | go_size)))⟩
theorem fix_vid (v : Int) : wrap64 (1 + wrap64 ((IntKind.u64.wrap v).tmod 4094)) = fixV v := by
  rw [Int.tmod_eq_emod_of_nonneg (by rw [IntKind.wrap_u64]; omega), IntKind.wrap_u64]; unfold wrap64 fixV; omega
end
section
open Go.RowKit

theorem two_blocks' (w : World) (cs1 cs2 : Array Value) (t1 t2 : TypeId) :
    ∃ W, W = (w.alloc (.cells cs1 t1)).alloc (.cells cs2 t2) ∧ W.heap.size = w.heap.size + 2 ∧ Below w.heap.size w W ∧ (∀ o v, cs1[o]? = some v → W.cell? ⟨w.heap.size, o, none⟩ = some v) ∧ W.heap[w.heap.size + 1]? = some (.cells cs2 t2) := by
  refine ⟨_, rfl, by simp, ((Below.refl _ _).alloc (Nat.le_refl _) _).alloc (by simp) _, ?_, ?_⟩
  · intro o v h
    rw [World.cell?_alloc_lt _ _ _ (by simp), World.cell?_alloc_new]
    exact h
  · have := heap_alloc_new (w.alloc (.cells cs1 t1)) (.cells cs2 t2)
    simpa using this
theorem tgt_on' {W : World} {g : Nat} {cs : Array Value} {t : TypeId} (h : W.heap[g]? = some (.cells cs t)) (i : Nat) (v : Value) (hv : cs[i]? = some v) : W.cell? ⟨g, i, none⟩ = some v := by
  simp [World.cell?, h, hv]
theorem tgt_free' {W : World} {g : Nat} {cs : Array Value} {t : TypeId} (h : W.heap[g]? = some (.cells cs t)) (i : Nat) : W.frozen? ⟨g, i, none⟩ = false := by
  simp [World.frozen?, h]
theorem blank5 {W : World} {g : Nat} {t : TypeId} (h : W.heap[g]? = some (.cells #[.int .i64 0, .int .u64 0, .int .i64 0, .bool false, .int .u32 0] t)) :
    W.cell? ⟨g, 0, none⟩ = some (.int .i64 0) ∧ W.cell? ⟨g, 1, none⟩ = some (.int .u64 0) ∧ W.cell? ⟨g, 2, none⟩ = some (.int .i64 0) ∧ W.cell? ⟨g, 3, none⟩ = some (.bool false) ∧ W.cell? ⟨g, 4, none⟩ = some (.int .u32 0) ∧
    W.frozen? ⟨g, 0, none⟩ = false ∧ W.frozen? ⟨g, 1, none⟩ = false ∧ W.frozen? ⟨g, 2, none⟩ = false ∧ W.frozen? ⟨g, 3, none⟩ = false ∧ W.frozen? ⟨g, 4, none⟩ = false :=
  ⟨tgt_on' h 0 _ rfl, tgt_on' h 1 _ rfl, tgt_on' h 2 _ rfl, tgt_on' h 3 _ rfl, tgt_on' h 4 _ rfl, tgt_free' h 0, tgt_free' h 1, tgt_free' h 2, tgt_free' h 3, tgt_free' h 4⟩
theorem far5 {w : World} {b g : Nat} {u0 u1 u2 u3 u4 : Value} {p : Addr} (hp : p.block = b) (hg : b ≠ g) :
    (((((w.setCell ⟨g, 0, none⟩ u0).setCell ⟨g, 1, none⟩ u1).setCell ⟨g, 2, none⟩ u2).setCell ⟨g, 3, none⟩ u3).setCell ⟨g, 4, none⟩ u4).cell? p = w.cell? p := by
  have h : ∀ (W : World) (i : Nat) (u : Value), (W.setCell ⟨g, i, none⟩ u).cell? p = W.cell? p := fun W i u => World.cell?_setCell_other W _ _ _ (by intro e; rw [← e] at hp; exact hg hp.symm)
  rw [h, h, h, h, h]

theorem port_fix (p : Int) : wrap64 ((IntKind.u64.wrap p).tmod 64) = p % 18446744073709551616 % 64 := by
  rw [Int.tmod_eq_emod_of_nonneg (by rw [IntKind.wrap_u64]; omega), IntKind.wrap_u64]; unfold wrap64; omega
theorem port_fix' (p : Int) : wrap64 (IntKind.u64.wrap p % 64) = p % 18446744073709551616 % 64 := by
  rw [IntKind.wrap_u64]; unfold wrap64; omega
theorem t8a : keyT 1153205178606813189 = .tuple #[.agg #[.int .i64 1, .int .u64 2199023255557], .bool true] := by kernel_rfl
theorem t8b : wordN 1 2199023255557 = 1153205178606813189 := by decide +kernel
theorem t8c : rightK 1 2199023255557 = true := by decide +kernel
theorem t9a : slotT 1153205178606813189 8589934595 = .tuple #[.agg #[.int .i64 1, .int .u64 2199023255557, .int .i64 3, .bool false, .int .u32 2], .bool true] := by kernel_rfl
theorem t9b : wordB ⟨1, 2199023255557, 3, false, 2⟩ = 8589934595 := by decide +kernel
theorem t9c : rightE ⟨1, 2199023255557, 3, false, 2⟩ = true := by decide +kernel
end
section
open Go.RowKit

end
section
open Go.RowKit

theorem litN6g {w : World} {g : Nat} (cs : Array Value) (e : TypeId) (hs : cs.size = 6) (hg : w.heap.size = g) : Sl (w.alloc (.cells cs e)) (g + 1) 6 (.slice (some ⟨g, 0, none⟩) 1 1) 1 cs.toList := by
  subst hg
  exact litN6 w cs e hs
/-- One place fixed: with the places ahead of it. -/
def fixP (g : Nat → Pl) (k : Nat) (x : Pl) : Pl := if x.used = true ∧ findF g (fixV x.e.vid) (fixM x.e.mac) k < 0 then ⟨true, fixE x.e⟩ else pl0
def fixR (f : Nat → Pl) : Nat → Nat → Pl
  | 0 => fun _ => pl0
  | k + 1 => updP (fixR f k) k (fixP (fixR f k) k (f k))
theorem fixR_old (f : Nat → Pl) : ∀ k i, i < k → ∀ m, fixR f (k + m) i = fixR f k i
  | k, i, hi, 0 => rfl
  | k, i, hi, m + 1 => by
    show updP (fixR f (k + m)) (k + m) _ i = _
    unfold updP
    rw [if_neg (by omega)]
    exact fixR_old f k i hi m
theorem listP_fix (f : Nat → Pl) (k : Nat) : plc (listP (fixR f (k + 1)) (k + 1)) = plc (listP (fixR f k) k) ++ (fixP (fixR f k) k (f k)).cells := by
  rw [listP_succ, plc_append, plc_one1]
  congr 1
  · congr 1
    unfold listP
    apply List.map_congr_left
    intro i hi
    have : i < k := by simpa using hi
    exact fixR_old f k i this 1
  · show (updP _ k _ k).cells = _
    unfold updP
    rw [if_pos rfl]
theorem fixP_stamp {g : Nat → Pl} {k : Nat} {x : Pl} (h : x.e.stamp < 4294967296) : (fixP g k x).e.stamp < 4294967296 := by
  unfold fixP
  split
  · exact fixE_stamp h
  · simp [pl0, en0]
theorem fixR_stamp {f : Nat → Pl} : ∀ n, (∀ i, i < n → (f i).e.stamp < 4294967296) → ∀ i, i < n → (fixR f n i).e.stamp < 4294967296
  | 0, _, i, hi => by omega
  | n + 1, h, i, hi => by
    show (updP _ n _ i).e.stamp < _
    unfold updP
    split
    · exact fixP_stamp (h n (by omega))
    · exact fixR_stamp n (fun j hj => h j (by omega)) i (by omega)

end
section
open Go.RowKit

theorem stRows : ST Try.prog 60 57 (.slice none 0 0) 1 24 := ST.mk Try.underlying60 (by kernel_rfl) rfl (by omega) (by omega)
theorem rowIs_nils {w : World} {M : Nat} {e : TypeId} : (w.alloc (.cells (mkC (.slice none 0 0) 1 M) e)).rowIs w.heap.size e M (fun _ => .slice none 0 0) := by
  have h := World.rowIs_made w (.slice none 0 0) M e
  unfold mkC
  rw [Nat.mul_one]
  exact h
theorem own_nils {w : World} {M : Nat} {T : TypeId} (hM : M ≤ maxLen) : RowOf (w.alloc (.cells (mkC (.agg #[.bool false, .int .i64 0, .int .u64 0, .int .i64 0, .bool false, .int .u32 0]) 6 M) T)) T w.heap.size (.slice (some ⟨w.heap.size, 0, none⟩) M M) M (fun _ => pl0) :=
  ⟨_, M, rfl, Nat.le_refl _, hM, fun _ => ⟨w.heap.size, _, rfl, Nat.le_refl _, rowIs_mk6, fun _ _ => rfl⟩⟩
set_option maxHeartbeats 1600000 in
theorem book_New0 (a b c : Int) (h : rightS a b c = false) (w : World) :
    Calls Try.prog 35 #[.agg #[.int .i64 a, .int .i64 b, .int .i64 c]] w (Says (.tuple #[.pointer none, .int .i64 1]) w) := by
  have HR := Lib.hid fun W => book_Right a b c W
  rw [h] at HR
  clear h
  go_enter Try.func35, Try.ntmps35
  go_wp2_with fail
  refine (HR.out _).mono ?_
  rintro e w1 ⟨rfl, hb⟩
  have HB1 : Hid (Below w.heap.size w w1) := Below.trans ((Below.refl _ _).alloc (Nat.le_refl _) _) (hb.mono (by simp))
  clear hb
  go_wp2
  exact bodyPost_ret (v := .tuple #[.pointer none, .int .i64 1]) (by simp [results, Try.results35, go_sem]) rfl ⟨rfl, HB1.out⟩
set_option maxRecDepth 20000 in
set_option maxHeartbeats 12800000 in
theorem book_New (S B n : Nat) (hS : 1 ≤ S ∧ S ≤ 8) (hB : 1 ≤ B ∧ B ≤ 16) (hn : 1 ≤ n ∧ n ≤ 8) (w : World) :
    Calls Try.prog 35 #[.agg #[.int .i64 (S : Nat), .int .i64 (B : Nat), .int .i64 (n : Nat)]] w fun e w' => ∃ p q, e = .returned (.tuple #[.pointer (some ⟨p, 0, none⟩), .int .i64 0]) ∧
      BkAt w' (fun b => b ≤ p) p q S B n (fun _ _ => pl0) ∧ w.heap.size ≤ p ∧ w.heap.size ≤ q ∧ q < p ∧ Below w.heap.size w w' := by
  obtain ⟨M, hM⟩ : ∃ M, M = S * B := ⟨_, rfl⟩
  have hMB : M ≤ 128 := by rw [hM]; exact Nat.mul_le_mul hS.2 hB.2
  have hM1 : 1 ≤ M := by rw [hM]; exact Nat.mul_pos hS.1 hB.1
  have hmul : (S : Int) * (B : Int) = (M : Int) := by rw [hM]; simp
  have hmw : wrap64 ((S : Int) * (B : Int)) = (M : Int) := by rw [hmul]; exact IntWalk.wrap64_in _ (by omega)
  have hmw3 : IntKind.i64.wrap ((S : Int) * (B : Int)) = (M : Int) := by rw [hmul]; exact IntWalk.i64_in _ (by omega)
  have hr := fun W => book_Right (S : Int) (B : Int) (n : Int) W
  have hy : rightS (S : Int) (B : Int) (n : Int) = true := by unfold rightS inB; simp; omega
  rw [hy] at hr
  have HR := Lib.hid hr
  have HM := Lib.hid hM
  have hk1 := fun W => run_mkFull (P := Try.prog) W stRows M (by omega)
  have hk2 := fun W => run_mkFull (P := Try.prog) W stPlaces n (by omega)
  clear hr hy hM hmul
  go_enter Try.func35, Try.ntmps35
  go_wp2_with fail
  refine (HR.out _).mono ?_
  rintro e w1 ⟨rfl, hb⟩
  have HB1 : Hid (Below w.heap.size w w1) := Below.trans ((Below.refl _ _).alloc (Nat.le_refl _) _) (hb.mono (by simp))
  have s0 : w1.cell? ⟨w.heap.size, 0, none⟩ = some (.int .i64 (S : Nat)) := by rw [(bcell hb).1 _ _ (by simp)]; simp [go_sem]
  have s1 : w1.cell? ⟨w.heap.size, 1, none⟩ = some (.int .i64 (B : Nat)) := by rw [(bcell hb).1 _ _ (by simp)]; simp [go_sem]
  have s2 : w1.cell? ⟨w.heap.size, 2, none⟩ = some (.int .i64 (n : Nat)) := by rw [(bcell hb).1 _ _ (by simp)]; simp [go_sem]
  have hz1 : w.heap.size + 1 ≤ w1.heap.size := by have := hb.size; simpa using this
  clear hb HR
  go_wp2_with fail
  refine wp_region_held_drew (S := fun w' => w'.cell? ⟨w.heap.size, 0, none⟩ = some (.int .i64 (S : Nat)) ∧ w'.cell? ⟨w.heap.size, 1, none⟩ = some (.int .i64 (B : Nat)) ∧ w'.cell? ⟨w.heap.size, 2, none⟩ = some (.int .i64 (n : Nat))) (by kernel_rfl) ?_ (fun hHeld => ?_)
  · exact ⟨s0, s1, s2⟩
  refine wpAnyH_take (i := 0) (oi := { dst := some 9, op := Go.Op.load 37 (Go.Operand.tmp 1), type := 37, pos := "book.go:33", after := #[], guard := none }) (v := ?_) rfl (by kernel_rfl) (by kernel_rfl) (by kernel_rfl) (fun _ _ _ h => h) (Or.inl ⟨by rfl, ?_⟩) (by assumption) ?_
  rotate_left
  · intro w hSw
    (try dsimp only at hSw)
    go_simp
    try with_reducible rfl
  (try simp only [Act.put, List.setIfInBounds_toArray, List.set_cons_zero, List.set_cons_succ])
  refine wpAnyH_take (i := 1) (oi := { dst := some 10, op := Go.Op.fieldAddr 37 (Go.Operand.tmp 1) 0, type := 0, pos := "book.go:33", after := #[], guard := none }) (v := ?_) rfl (by kernel_rfl) (by kernel_rfl) (by kernel_rfl) (fun _ _ _ h => h) (Or.inl ⟨by rfl, ?_⟩) (by assumption) ?_
  rotate_left
  · intro w hSw
    (try dsimp only at hSw)
    go_simp
    try with_reducible rfl
  (try simp only [Act.put, List.setIfInBounds_toArray, List.set_cons_zero, List.set_cons_succ])
  refine wpAnyH_take (i := 2) (oi := { dst := some 11, op := Go.Op.load 3 (Go.Operand.tmp 10), type := 3, pos := "book.go:33", after := #[{ on := 1, ground := Go.Ground.data }], guard := none }) (v := ?_) rfl (by kernel_rfl) (by kernel_rfl) (by kernel_rfl) (fun _ _ _ h => h) (Or.inl ⟨by rfl, ?_⟩) (by assumption) ?_
  rotate_left
  · intro w hSw
    (try dsimp only at hSw)
    go_simp
    try with_reducible rfl
  (try simp only [Act.put, List.setIfInBounds_toArray, List.set_cons_zero, List.set_cons_succ])
  refine wpAnyH_take (i := 3) (oi := { dst := some 12, op := Go.Op.fieldAddr 37 (Go.Operand.tmp 1) 1, type := 0, pos := "book.go:33", after := #[], guard := none }) (v := ?_) rfl (by kernel_rfl) (by kernel_rfl) (by kernel_rfl) (fun _ _ _ h => h) (Or.inl ⟨by rfl, ?_⟩) (by assumption) ?_
  rotate_left
  · intro w hSw
    (try dsimp only at hSw)
    go_simp
    try with_reducible rfl
  (try simp only [Act.put, List.setIfInBounds_toArray, List.set_cons_zero, List.set_cons_succ])
  refine wpAnyH_take (i := 4) (oi := { dst := some 13, op := Go.Op.load 3 (Go.Operand.tmp 12), type := 3, pos := "book.go:33", after := #[{ on := 3, ground := Go.Ground.data }], guard := none }) (v := ?_) rfl (by kernel_rfl) (by kernel_rfl) (by kernel_rfl) (fun _ _ _ h => h) (Or.inl ⟨by rfl, ?_⟩) (by assumption) ?_
  rotate_left
  · intro w hSw
    (try dsimp only at hSw)
    go_simp
    try with_reducible rfl
  (try simp only [Act.put, List.setIfInBounds_toArray, List.set_cons_zero, List.set_cons_succ])
  refine wpAnyH_take (i := 5) (oi := { dst := some 14, op := Go.Op.binOp Go.BinOp.mul 3 (Go.Operand.tmp 11) (Go.Operand.tmp 13) 3, type := 3, pos := "book.go:33", after := #[{ on := 2, ground := Go.Ground.data }, { on := 4, ground := Go.Ground.data }], guard := none }) (v := ?_) rfl (by kernel_rfl) (by kernel_rfl) (by kernel_rfl) (fun _ _ _ h => h) (Or.inl ⟨by rfl, ?_⟩) (by assumption) ?_
  rotate_left
  · intro w hSw
    (try dsimp only at hSw)
    go_simp
    try with_reducible rfl
  (try simp only [Act.put, List.setIfInBounds_toArray, List.set_cons_zero, List.set_cons_succ])
  refine wpAnyH_ready (rs := [6]) (by kernel_rfl) (by simp) ?_
  refine AllReadyH.cons (o := { dst := some 15, op := Go.Op.makeSlice 60 (Go.Operand.tmp 14) (Go.Operand.tmp 14), type := 60, pos := "book.go:33", after := #[{ on := 5, ground := Go.Ground.data }, { on := 5, ground := Go.Ground.data }], guard := none }) rfl (fun K hK => ?_) AllReadyH.nil
  go_simp

  refine hK.out _ _ ?_ (fun hHeld => ?_)
  · (try dsimp only)
    obtain ⟨q0, q1, q2⟩ := hHeld
    exact ⟨(World.cell?_alloc_lt _ _ _ (by show w.heap.size < w1.heap.size; omega)).trans q0, (World.cell?_alloc_lt _ _ _ (by show w.heap.size < w1.heap.size; omega)).trans q1, (World.cell?_alloc_lt _ _ _ (by show w.heap.size < w1.heap.size; omega)).trans q2⟩
  clear hK K
  (try simp only [Act.put, List.setIfInBounds_toArray, List.set_cons_zero, List.set_cons_succ])
  refine wpAnyH_take (i := 7) (oi := { dst := some 16, op := Go.Op.build 143 #[(0, Go.Operand.tmp 9), (1, Go.Operand.tmp 15)], type := 143, pos := "book.go:33", after := #[{ on := 0, ground := Go.Ground.data }, { on := 6, ground := Go.Ground.data }], guard := none }) (v := ?_) rfl (by kernel_rfl) (by kernel_rfl) (by kernel_rfl) (fun _ _ _ h => h) (Or.inl ⟨by rfl, ?_⟩) (by assumption) ?_
  rotate_left
  · intro w hSw
    (try dsimp only at hSw)
    go_simp
    try with_reducible rfl
  (try simp only [Act.put, List.setIfInBounds_toArray, List.set_cons_zero, List.set_cons_succ])
  refine wpAnyH_ready (rs := [8]) (by kernel_rfl) (by simp) ?_
  refine AllReadyH.cons (o := { dst := some 17, op := Go.Op.box 143 (Go.Operand.tmp 16), type := 98, pos := "book.go:33", after := #[{ on := 7, ground := Go.Ground.data }], guard := none }) rfl (fun K hK => ?_) AllReadyH.nil
  go_simp

  refine hK.out _ _ ?_ (fun hHeld => ?_)
  · (try dsimp only)
    obtain ⟨q0, q1, q2⟩ := hHeld
    exact ⟨(World.cell?_alloc_lt _ _ _ (by show w.heap.size < _; simp; omega)).trans q0, (World.cell?_alloc_lt _ _ _ (by show w.heap.size < _; simp; omega)).trans q1, (World.cell?_alloc_lt _ _ _ (by show w.heap.size < _; simp; omega)).trans q2⟩
  clear hK K
  (try simp only [Act.put, List.setIfInBounds_toArray, List.set_cons_zero, List.set_cons_succ])
  refine wpAnyH_take (i := 9) (oi := { dst := some 4, op := Go.Op.assign (Go.Operand.tmp 17), type := 98, pos := "book.go:33", after := #[{ on := 8, ground := Go.Ground.data }, { on := 0, ground := Go.Ground.phase }, { on := 1, ground := Go.Ground.phase }, { on := 2, ground := Go.Ground.phase }, { on := 3, ground := Go.Ground.phase }, { on := 4, ground := Go.Ground.phase }, { on := 5, ground := Go.Ground.phase }, { on := 6, ground := Go.Ground.phase }, { on := 7, ground := Go.Ground.phase }, { on := 8, ground := Go.Ground.phase }], guard := none }) (v := ?_) rfl (by kernel_rfl) (by kernel_rfl) (by kernel_rfl) (fun _ _ _ h => h) (Or.inl ⟨by rfl, ?_⟩) (by assumption) ?_
  rotate_left
  · intro w hSw
    (try dsimp only at hSw)
    go_simp
    try with_reducible rfl
  (try simp only [Act.put, List.setIfInBounds_toArray, List.set_cons_zero, List.set_cons_succ])
  refine wpAnyH_done (by kernel_rfl) ?_ _
  obtain ⟨q, hq⟩ : ∃ q, q = w1.heap.size := ⟨_, rfl⟩
  obtain ⟨p, hp⟩ : ∃ p, p = w1.heap.size + 1 := ⟨_, rfl⟩
  obtain ⟨w2, hw2⟩ : ∃ w2, w2 = ((w1.alloc (.cells (mkC (.slice none 0 0) 1 M) 57)).alloc (.cells #[.int .i64 (S : Nat), .int .i64 (B : Nat), .int .i64 (n : Nat), .slice (some ⟨q, 0, none⟩) M M] 143)).drew := ⟨_, rfl⟩
  have HQ0 : Hid (w2.rowIs q 57 M (fun _ => .slice none 0 0)) := by rw [hw2, hq]; exact (rowIs_nils.alloc _).drew
  have HP0 : Hid (w2.cell? ⟨p, 0, none⟩ = some (.int .i64 (S : Nat)) ∧ w2.cell? ⟨p, 1, none⟩ = some (.int .i64 (B : Nat)) ∧ w2.cell? ⟨p, 2, none⟩ = some (.int .i64 (n : Nat)) ∧ w2.cell? ⟨p, 3, none⟩ = some (.slice (some ⟨q, 0, none⟩) M M) ∧ w2.cell? ⟨w.heap.size, 2, none⟩ = some (.int .i64 (n : Nat))) := by
    rw [hw2, hp]
    refine ⟨by simp [go_sem], by simp [go_sem], by simp [go_sem], by simp [go_sem], ?_⟩
    exact (World.cell?_alloc_lt _ _ _ (by show w.heap.size < _; simp; omega)).trans ((World.cell?_alloc_lt _ _ _ (by show w.heap.size < _; omega)).trans s2)
  have HB2 : Hid (Below w.heap.size w w2) := by rw [hw2]; exact ((HB1.out.alloc (by omega) _).alloc (by simp; omega) _).drew
  have hp2 : p < w2.heap.size := by rw [hw2, hp]; simp
  have hpq : q + 1 = p := by rw [hp, hq]
  have hqw : w.heap.size < q := by rw [hq]; omega
  rw [← hp, ← hq, ← hw2]
  clear hw2 hq hp hHeld s0 s1 s2 hk1 hmw hmw3 HB1 hz1
  obtain ⟨t0, t1, t2, t3, t4⟩ := HP0.out
  go_wp2
  clear t0 t1 t2 t3 t4
  go_loopw [23] (fun i wr => ∃ (k : Nat) (G : Nat → Value), k ≤ M ∧ i = .int .i64 k ∧ p < wr.heap.size ∧ Hid (wr.rowIs q 57 M G) ∧ Hid (∀ i, i < k → PlRowD wr (fun b => b ≤ p) (G i) n (fun _ => pl0)) ∧ Hid (wr.cell? ⟨p, 0, none⟩ = some (.int .i64 (S : Nat)) ∧ wr.cell? ⟨p, 1, none⟩ = some (.int .i64 (B : Nat)) ∧ wr.cell? ⟨p, 2, none⟩ = some (.int .i64 (n : Nat)) ∧ wr.cell? ⟨p, 3, none⟩ = some (.slice (some ⟨q, 0, none⟩) M M) ∧ wr.cell? ⟨w.heap.size, 2, none⟩ = some (.int .i64 (n : Nat))) ∧ Hid (Below w.heap.size w wr)) (fun i _ => M - (intOf i).toNat)
  case atStart => exact ⟨0, _, by omega, rfl, hp2, HQ0, fun i hi => absurd hi (by omega), HP0, HB2⟩
  case round =>
    obtain ⟨k, G, hk, rfl, hpz, HQ, HR, HP, HB⟩ := hrel
    obtain ⟨t0, t1, t2, t3, t4⟩ := HP.out
    by_cases hlt : k < M
    · have g0 : (0 : Int) ≤ (k : Int) := Int.natCast_nonneg _
      have g1 : (k : Int) < (M : Int) := by omega
      go_wp2_with fail
      refine wp_region_held_drew (S := fun w' => w'.cell? ⟨p, 3, none⟩ = some (.slice (some ⟨q, 0, none⟩) M M) ∧ w'.cell? ⟨w.heap.size, 2, none⟩ = some (.int .i64 (n : Nat))) (by kernel_rfl) ?_ (fun hHeld => ?_)
      · exact ⟨t3, t4⟩
      obtain ⟨v0, hv0⟩ : ∃ w', w' = wr.drew := ⟨_, rfl⟩
      have hvz : v0.heap.size = wr.heap.size := by rw [hv0]; rfl
      have hvb : Below wr.heap.size wr v0 := by rw [hv0]; exact (Below.refl _ _).drew
      rw [← hv0] at hHeld ⊢
      clear hv0
      obtain ⟨gb, hgb⟩ : ∃ g', g' = wr.heap.size := ⟨_, rfl⟩
      obtain ⟨v1, hv1⟩ : ∃ w', w' = v0.alloc (.cells (mkC (.agg #[.bool false, .int .i64 0, .int .u64 0, .int .i64 0, .bool false, .int .u32 0]) 6 n) 153) := ⟨_, rfl⟩
      have HO : Hid (RowOf v1 153 wr.heap.size (.slice (some ⟨gb, 0, none⟩) n n) n (fun _ => pl0)) := by rw [hv1, hgb, ← hvz]; exact own_nils (by unfold maxLen; omega)
      have hb1 : Below wr.heap.size wr v1 := by rw [hv1]; exact hvb.alloc (by omega) _
      have HQ1 : Hid (v1.rowIs q 57 M G) := HQ.out.of_block (hb1.block q (by omega))
      have y1 : (v0.alloc (.cells (mkC (.agg #[.bool false, .int .i64 0, .int .u64 0, .int .i64 0, .bool false, .int .u32 0]) 6 n) 153)).cell? ⟨q, k, none⟩ = some (G k) := by rw [← hv1]; exact HQ1.out.cell hlt
      have y2 : ∀ i, (v0.alloc (.cells (mkC (.agg #[.bool false, .int .i64 0, .int .u64 0, .int .i64 0, .bool false, .int .u32 0]) 6 n) 153)).frozen? ⟨q, i, none⟩ = false := fun i => by rw [← hv1]; exact HQ1.out.frozen i
      refine wpAnyH_take (i := 0) (oi := { dst := some 26, op := Go.Op.move (Go.Operand.tmp 4), type := 98, pos := "book.go:35", after := #[], guard := none }) (v := ?_) rfl (by kernel_rfl) (by kernel_rfl) (by kernel_rfl) (fun _ _ _ h => h) (Or.inl ⟨by rfl, ?_⟩) (by assumption) ?_
      rotate_left
      · intro w hSw
        (try dsimp only at hSw)
        go_simp
        try with_reducible rfl
      (try simp only [Act.put, List.setIfInBounds_toArray, List.set_cons_zero, List.set_cons_succ])
      refine wpAnyH_take (i := 1) (oi := { dst := some 27, op := Go.Op.nilCheck (Go.Operand.tmp 26), type := 0, pos := "book.go:35", after := #[{ on := 0, ground := Go.Ground.data }], guard := none }) (v := ?_) rfl (by kernel_rfl) (by kernel_rfl) (by kernel_rfl) (fun _ _ _ h => h) (Or.inl ⟨by rfl, ?_⟩) (by assumption) ?_
      rotate_left
      · intro w hSw
        (try dsimp only at hSw)
        go_simp
        try with_reducible rfl
      (try simp only [Act.put, List.setIfInBounds_toArray, List.set_cons_zero, List.set_cons_succ])
      refine wpAnyH_take (i := 2) (oi := { dst := some 28, op := Go.Op.fieldAddr 143 (Go.Operand.tmp 27) 1, type := 0, pos := "book.go:35", after := #[{ on := 1, ground := Go.Ground.data }], guard := none }) (v := ?_) rfl (by kernel_rfl) (by kernel_rfl) (by kernel_rfl) (fun _ _ _ h => h) (Or.inl ⟨by rfl, ?_⟩) (by assumption) ?_
      rotate_left
      · intro w hSw
        (try dsimp only at hSw)
        go_simp
        try with_reducible rfl
      (try simp only [Act.put, List.setIfInBounds_toArray, List.set_cons_zero, List.set_cons_succ])
      refine wpAnyH_take (i := 3) (oi := { dst := some 29, op := Go.Op.load 60 (Go.Operand.tmp 28), type := 60, pos := "book.go:35", after := #[{ on := 2, ground := Go.Ground.data }], guard := none }) (v := ?_) rfl (by kernel_rfl) (by kernel_rfl) (by kernel_rfl) (fun _ _ _ h => h) (Or.inl ⟨by rfl, ?_⟩) (by assumption) ?_
      rotate_left
      · intro w hSw
        (try dsimp only at hSw)
        go_simp
        try with_reducible rfl
      (try simp only [Act.put, List.setIfInBounds_toArray, List.set_cons_zero, List.set_cons_succ])
      refine wpAnyH_take (i := 4) (oi := { dst := some 30, op := Go.Op.move (Go.Operand.tmp 5), type := 3, pos := "book.go:35", after := #[], guard := none }) (v := ?_) rfl (by kernel_rfl) (by kernel_rfl) (by kernel_rfl) (fun _ _ _ h => h) (Or.inl ⟨by rfl, ?_⟩) (by assumption) ?_
      rotate_left
      · intro w hSw
        (try dsimp only at hSw)
        go_simp
        try with_reducible rfl
      (try simp only [Act.put, List.setIfInBounds_toArray, List.set_cons_zero, List.set_cons_succ])
      refine wpAnyH_take (i := 5) (oi := { dst := some 31, op := Go.Op.fieldAddr 37 (Go.Operand.tmp 1) 2, type := 0, pos := "book.go:35", after := #[], guard := none }) (v := ?_) rfl (by kernel_rfl) (by kernel_rfl) (by kernel_rfl) (fun _ _ _ h => h) (Or.inl ⟨by rfl, ?_⟩) (by assumption) ?_
      rotate_left
      · intro w hSw
        (try dsimp only at hSw)
        go_simp
        try with_reducible rfl
      (try simp only [Act.put, List.setIfInBounds_toArray, List.set_cons_zero, List.set_cons_succ])
      refine wpAnyH_take (i := 6) (oi := { dst := some 32, op := Go.Op.load 3 (Go.Operand.tmp 31), type := 3, pos := "book.go:35", after := #[{ on := 5, ground := Go.Ground.data }], guard := none }) (v := ?_) rfl (by kernel_rfl) (by kernel_rfl) (by kernel_rfl) (fun _ _ _ h => h) (Or.inl ⟨by rfl, ?_⟩) (by assumption) ?_
      rotate_left
      · intro w hSw
        (try dsimp only at hSw)
        go_simp
        try with_reducible rfl
      (try simp only [Act.put, List.setIfInBounds_toArray, List.set_cons_zero, List.set_cons_succ])
      refine wpAnyH_ready (rs := [7]) (by kernel_rfl) (by simp) ?_
      refine AllReadyH.cons (o := { dst := some 33, op := Go.Op.makeSlice 57 (Go.Operand.tmp 32) (Go.Operand.tmp 32), type := 57, pos := "book.go:35", after := #[{ on := 6, ground := Go.Ground.data }, { on := 6, ground := Go.Ground.data }], guard := none }) rfl (fun K hK => ?_) AllReadyH.nil
      go_simp

      refine hK.out _ _ ?_ (fun hHeld => ?_)
      · (try dsimp only)
        obtain ⟨q0, q1⟩ := hHeld
        exact ⟨(World.cell?_alloc_lt _ _ _ (by show p < v0.heap.size; omega)).trans q0, (World.cell?_alloc_lt _ _ _ (by show w.heap.size < v0.heap.size; omega)).trans q1⟩
      clear hK K
      (try simp only [Act.put, List.setIfInBounds_toArray, List.set_cons_zero, List.set_cons_succ])
      refine wpAnyH_take (i := 8) (oi := { dst := some 34, op := Go.Op.indexAddr 60 (Go.Operand.tmp 29) (Go.Operand.tmp 30), type := 0, pos := "book.go:35", after := #[{ on := 3, ground := Go.Ground.data }, { on := 4, ground := Go.Ground.data }, { on := 0, ground := Go.Ground.phase }, { on := 1, ground := Go.Ground.phase }, { on := 2, ground := Go.Ground.phase }, { on := 3, ground := Go.Ground.phase }, { on := 4, ground := Go.Ground.phase }, { on := 5, ground := Go.Ground.phase }, { on := 6, ground := Go.Ground.phase }, { on := 7, ground := Go.Ground.phase }], guard := none }) (v := ?_) rfl (by kernel_rfl) (by kernel_rfl) (by kernel_rfl) (fun _ _ _ h => h) (Or.inl ⟨by rfl, ?_⟩) (by assumption) ?_
      rotate_left
      · intro w hSw
        (try dsimp only at hSw)
        go_simp
        try with_reducible rfl
      (try simp only [Act.put, List.setIfInBounds_toArray, List.set_cons_zero, List.set_cons_succ])
      refine wpAnyH_ready (rs := [9]) (by kernel_rfl) (by simp) ?_
      refine AllReadyH.cons (o := { dst := none, op := Go.Op.store 57 (Go.Operand.tmp 34) (Go.Operand.tmp 33), type := 0, pos := "book.go:35", after := #[{ on := 8, ground := Go.Ground.data }, { on := 7, ground := Go.Ground.data }, { on := 0, ground := Go.Ground.phase }, { on := 1, ground := Go.Ground.phase }, { on := 2, ground := Go.Ground.phase }, { on := 3, ground := Go.Ground.phase }, { on := 4, ground := Go.Ground.phase }, { on := 5, ground := Go.Ground.phase }, { on := 6, ground := Go.Ground.phase }, { on := 7, ground := Go.Ground.phase }], guard := none }) rfl (fun K hK => ?_) AllReadyH.nil
      go_simp

      refine hK.out _ _ ?_ (fun hHeld => ?_)
      · (try dsimp only)
        obtain ⟨q0, q1⟩ := hHeld
        have hz1 := hb1.size
        exact ⟨((But.set k _).cell (show p < (v0.alloc _).heap.size by rw [World.size_alloc]; omega) (show p ≠ q by omega)).trans q0, ((But.set k _).cell (show w.heap.size < (v0.alloc _).heap.size by rw [World.size_alloc]; omega) (show w.heap.size ≠ q by omega)).trans q1⟩
      clear hK K
      (try simp only [Act.put, List.setIfInBounds_toArray, List.set_cons_zero, List.set_cons_succ])
      refine wpAnyH_done (by kernel_rfl) ?_ _
      obtain ⟨v2, hv2⟩ : ∃ w', w' = v1.setCell ⟨q, k, none⟩ (.slice (some ⟨gb, 0, none⟩) n n) := ⟨_, rfl⟩
      have hbut : But q wr v2 := by rw [hv2]; exact (But.of hb1 (by omega)).trans (But.set k _)
      have HQ2 : Hid (v2.rowIs q 57 M (fun j => if j = k then .slice (some ⟨gb, 0, none⟩) n n else G j)) := by rw [hv2]; exact HQ1.out.set k _
      have HR2 : Hid (∀ i, i < k + 1 → PlRowD v2 (fun b => b ≤ p) ((fun j => if j = k then .slice (some ⟨gb, 0, none⟩) n n else G j) i) n (fun _ => pl0)) := fun i hi => by
        by_cases hik : i = k
        · show PlRowD v2 _ (if i = k then _ else _) n _
          rw [if_pos hik, hv2]
          exact (PlRowD.of_own (D := fun b => b ≤ p) HO.out (fun b hb => by show b < wr.heap.size; have : b ≤ p := hb; omega)).but (But.set k _) (by show q ≤ p; omega)
        · show PlRowD v2 _ (if i = k then _ else _) n _
          rw [if_neg hik]
          exact (HR.out i (by omega)).but hbut (by show q ≤ p; omega)
      have c2 := hbut.below.size
      have HP2 : Hid (v2.cell? ⟨p, 0, none⟩ = some (.int .i64 (S : Nat)) ∧ v2.cell? ⟨p, 1, none⟩ = some (.int .i64 (B : Nat)) ∧ v2.cell? ⟨p, 2, none⟩ = some (.int .i64 (n : Nat)) ∧ v2.cell? ⟨p, 3, none⟩ = some (.slice (some ⟨q, 0, none⟩) M M) ∧ v2.cell? ⟨w.heap.size, 2, none⟩ = some (.int .i64 (n : Nat))) :=
        ⟨(hbut.cell (show p < _ by omega) (show p ≠ q by omega)).trans t0, (hbut.cell (show p < _ by omega) (show p ≠ q by omega)).trans t1, (hbut.cell (show p < _ by omega) (show p ≠ q by omega)).trans t2, (hbut.cell (show p < _ by omega) (show p ≠ q by omega)).trans t3, (hbut.cell (show w.heap.size < _ by omega) (show w.heap.size ≠ q by omega)).trans t4⟩
      have HB3 : Hid (Below w.heap.size w v2) := HB.out.trans (hbut.below.mono (by omega))
      try rw [← hgb]
      try rw [← hv1]
      rw [← hv2]
      have hpz2 : p < v2.heap.size := by omega
      clear hv1 hv2 hgb hHeld y1 y2 HO HQ1 HQ HR HP HB hbut hb1 hvb hvz t0 t1 t2 t3 t4
      go_wp2
      go_roundw
      case rel => exact ⟨k + 1, _, by omega, by go_num, hpz2, HQ2, HR2, HP2, HB3⟩
      case measure => simp [intOf]; omega
    · have hkM : M = k := by omega
      subst hkM
      go_wp2
      refine bodyPost_ret (v := .tuple #[.pointer (some ⟨p, 0, none⟩), .int .i64 0]) (by simp [results, Try.results35, go_sem]) rfl ⟨p, q, rfl, ?_, by omega, by omega, by omega, HB.out⟩
      have hcap : M ≤ maxLen := by unfold maxLen; omega
      refine ⟨hpz, by omega, by omega, t0, t1, t2, ⟨M, by rw [← HM.out]; exact Nat.le_refl _, hcap, ?_⟩, HQ.out.frozen, fun i hi => ?_⟩
      · rw [← HM.out]; exact t3
      · rw [← HM.out] at hi
        exact ⟨_, HQ.out.cell hi, HR.out i hi⟩
end
section
open Go.RowKit

def enCells (e : En) : List Value := [.int .i64 e.vid, .int .u64 (e.mac : Nat), .int .i64 e.port, .bool e.st, .int .u32 (e.stamp : Nat)]
def encs : List En → List Value
  | [] => []
  | x :: l => enCells x ++ encs l
theorem encs_append : ∀ a b : List En, encs (a ++ b) = encs a ++ encs b
  | [], b => rfl
  | x :: a, b => by simp [encs, encs_append a b]
theorem encs_one (x : En) : encs [x] = enCells x := by simp [encs]
/-- The entries of the first k places; of the first i buckets. -/
def usedL (f : Nat → Pl) : Nat → List En
  | 0 => []
  | k + 1 => usedL f k ++ (if (f k).used = true then [(f k).e] else [])
def bookL (g : Nat → Nat → Pl) (n : Nat) : Nat → List En
  | 0 => []
  | i + 1 => bookL g n i ++ usedL (g i) n
theorem usedL_le (f : Nat → Pl) : ∀ k, (usedL f k).length ≤ k
  | 0 => Nat.le_refl _
  | k + 1 => by
    have := usedL_le f k
    rw [usedL, List.length_append]
    split <;> simp <;> omega
theorem bookL_le (g : Nat → Nat → Pl) (n : Nat) : ∀ i, (bookL g n i).length ≤ i * n
  | 0 => by simp [bookL]
  | i + 1 => by
    have h1 := bookL_le g n i
    have h2 := usedL_le (g i) n
    rw [bookL, List.length_append, Nat.add_mul]
    omega
theorem usedL_yes {f : Nat → Pl} {k : Nat} (h : (f k).used = true) : usedL f (k + 1) = usedL f k ++ [(f k).e] := by rw [usedL, if_pos h]
theorem usedL_no {f : Nat → Pl} {k : Nat} (h : (f k).used = false) : usedL f (k + 1) = usedL f k := by rw [usedL, if_neg (by simp [h]), List.append_nil]
theorem stEnts : ST Try.prog 53 151 (.agg #[.int .i64 0, .int .u64 0, .int .i64 0, .bool false, .int .u32 0]) 5 32 := ST.mk Try.underlying53 (by kernel_rfl) rfl (by omega) (by omega)
theorem litN5g {w : World} {g : Nat} (cs : Array Value) (e : TypeId) (hs : cs.size = 5) (hg : w.heap.size = g) : Sl (w.alloc (.cells cs e)) (g + 1) 5 (.slice (some ⟨g, 0, none⟩) 1 1) 1 cs.toList := by
  subst hg
  refine ⟨by simp [hs], some ⟨w.heap.size, 0, none⟩, 1, rfl, Nat.le_refl _, by simp [maxLen], fun _ => ⟨w.heap.size, 0, rfl, by omega, fun j hj => ?_⟩⟩
  rw [Nat.zero_add]
  have hj' : j < cs.size := by omega
  simp [go_sem]
set_option maxHeartbeats 800000 in
theorem book_List0 (w : World) :
    Calls Try.prog 61 #[.pointer none] w (Says (.slice none 0 0) w) := by
  go_enter Try.func61, Try.ntmps61
  go_wp2
  go_ret
  exact ⟨rfl, Below.refl _ _⟩
set_option maxRecDepth 20000 in
set_option maxHeartbeats 12800000 in
theorem book_List {w : World} {D : Nat → Prop} {p q S B n : Nat} {g : Nat → Nat → Pl} (h : BkAt w D p q S B n g) (hSB : S * B ≤ 128) (hn : n ≤ 8) :
    Calls Try.prog 61 #[.pointer (some ⟨p, 0, none⟩)] w fun e w' => ∃ v, e = .returned v ∧ w'.ownsRow w.heap.size 151 5 v (bookL g n (S * B)).length (encs (bookL g n (S * B))) ∧ Below w.heap.size w w' := by
  obtain ⟨M, hM⟩ : ∃ M, M = S * B := ⟨_, rfl⟩
  obtain ⟨hp, hq0, hpq, _, _, _, ⟨cap, c1, c2, s2⟩, hfz, hrows⟩ := h
  rw [← hM] at hSB c1 s2 hrows ⊢
  have HROWS := Lib.hid hrows
  unfold maxLen at c2
  clear hM hrows hfz
  go_enter Try.func61, Try.ntmps61
  go_wp2
  go_loopw [3, 15] (fun out i wr => ∃ k : Nat, k ≤ M ∧ i = .int .i64 k ∧ Hid (wr.ownsRow w.heap.size 151 5 out (bookL g n k).length (encs (bookL g n k))) ∧ Hid (Below w.heap.size w wr)) (fun _ i _ => M - (intOf i).toNat)
  case atStart => exact ⟨0, by omega, rfl, ⟨by simp [bookL, encs], .inl ⟨rfl, rfl⟩⟩, Below.refl _ _⟩
  case round =>
    obtain ⟨k, hk, rfl, HO, HB⟩ := hrel
    by_cases hlt : k < M
    · have g0 : (0 : Int) ≤ (k : Int) := Int.natCast_nonneg _
      have g1 : (k : Int) < (M : Int) := by omega
      obtain ⟨v0, s3, A, cp, hv0, x1, x2, x3⟩ := HROWS.out k hlt
      subst hv0
      have HC := Lib.hid x3
      unfold maxLen at x2
      have s3' : wr.cell? ⟨q, k, none⟩ = some (.slice A n cp) := (HB.out.cell (p := ⟨q, k, none⟩) hq0).trans s3
      have hle := bookL_le g n k
      have hkn : k * n ≤ 1024 := Nat.mul_le_mul (show k ≤ 128 by omega) hn
      have HLE : Hid ((bookL g n k).length ≤ 1024) := Nat.le_trans hle hkn
      obtain ⟨L, hL⟩ : ∃ L, L = bookL g n k := ⟨_, rfl⟩
      have HNX : Hid (bookL g n (k + 1) = L ++ usedL (g k) n) := by rw [hL]; rfl
      rw [← hL] at HO HLE
      clear hL hle hkn x3 s3
      go_wp2
      go_loopw [3, 21] (fun out i wr => ∃ j : Nat, j ≤ n ∧ i = .int .i64 j ∧ Hid (wr.ownsRow w.heap.size 151 5 out (L ++ usedL (g k) j).length (encs (L ++ usedL (g k) j))) ∧ Hid (Below w.heap.size w wr)) (fun _ i _ => n - (intOf i).toNat)
      case atStart => exact ⟨0, by omega, rfl, by rw [show usedL (g k) 0 = [] from rfl, List.append_nil]; exact HO, HB⟩
      case round =>
        obtain ⟨j, hj, rfl, HO2, HB2⟩ := hrel
        by_cases hjn : j < n
        · obtain ⟨b, off, rfl, hb, _, hc⟩ := HC.out (by omega)
          have e0 : (0 : Int) ≤ (j : Int) := Int.natCast_nonneg _
          have e1 : (j : Int) < (n : Int) := by omega
          have hcx := (hc j hjn).keep (w' := wr) fun p hp => HB2.out.cell (by rw [hp]; omega)
          have hz := HB2.out.size
          have HY := Lib.hid (usedL_yes (f := g k) (k := j))
          have HN := Lib.hid (usedL_no (f := g k) (k := j))
          have hul := usedL_le (g k) j
          obtain ⟨U, hU⟩ : ∃ U, U = usedL (g k) j := ⟨_, rfl⟩
          rw [← hU] at HO2 HY HN hul
          have hlen : (L ++ U).length ≤ 1032 := by rw [List.length_append]; have := HLE.out; omega
          obtain ⟨c, hc2⟩ : ∃ c, c = (L ++ U).length := ⟨_, rfl⟩
          rw [← hc2] at HO2 hlen
          have HC2 := Lib.hid hc2
          clear hc2
          obtain ⟨x, hx⟩ : ∃ x, x = g k j := ⟨_, rfl⟩
          rw [← hx] at hcx HY HN
          clear hc HC hx hU hul HROWS
          obtain ⟨A3, cq, hout, _, _⟩ := (Sl.of_own HO2.out).form
          subst hout
          obtain ⟨u, ⟨a, m, pt, st, s⟩⟩ := x
          obtain ⟨c0', c1', c2', c3', c4', c5'⟩ := hcx
          have c0 : wr.cell? ⟨b, off + j * 6, none⟩ = some (.bool u) := c0'
          have c1 : wr.cell? ⟨b, off + j * 6 + 1, none⟩ = some (.int .i64 a) := c1'
          have c2 : wr.cell? ⟨b, off + j * 6 + 2, none⟩ = some (.int .u64 (m : Int)) := c2'
          have c3 : wr.cell? ⟨b, off + j * 6 + 3, none⟩ = some (.int .i64 pt) := c3'
          have c4 : wr.cell? ⟨b, off + j * 6 + 4, none⟩ = some (.bool st) := c4'
          have c5 : wr.cell? ⟨b, off + j * 6 + 5, none⟩ = some (.int .u32 (s : Int)) := c5'
          clear c0' c1' c2' c3' c4' c5'
          cases u
          · have HU := HN.out rfl
            have HU2 := Lib.hid HU
            clear HY HN HU
            go_wp2
            go_roundw
            case rel => exact ⟨j + 1, by omega, by go_num, by rw [HU2.out, ← HC2.out]; exact own_below HO2.out ((Below.refl _ _).alloc (Nat.le_refl _) _), HB2.out.alloc hz _⟩
            case measure => simp [intOf]; omega
          · have HU := HY.out rfl
            have HU2 := Lib.hid HU
            clear HY HN HU
            go_wp2_with (first
              | (at_builtin; refine wpList_apv _ rfl stEnts _ _ rfl w.heap.size _ c _ rfl (own_below HO2.out (((Below.refl wr.heap.size wr).alloc (Nat.le_refl _) (.cells #[.bool true, .int .i64 a, .int .u64 (m : Int), .int .i64 pt, .bool st, .int .u32 (s : Int)] 153)).alloc (by simp) (.cells #[.int .i64 a, .int .u64 (m : Int), .int .i64 pt, .bool st, .int .u32 (s : Int)] 151))) _ _ 1 [.int .i64 a, .int .u64 (m : Int), .int .i64 pt, .bool st, .int .u32 (s : Int)] rfl (litN5g (w := wr.alloc (.cells #[.bool true, .int .i64 a, .int .u64 (m : Int), .int .i64 pt, .bool st, .int .u32 (s : Int)] 153)) (g := wr.heap.size + 1) #[.int .i64 a, .int .u64 (m : Int), .int .i64 pt, .bool st, .int .u32 (s : Int)] _ rfl (by simp)) (by simp [Value.oneCell']) (by omega) (by go_size) ?_; intro A2 cc w9 hown2 hgr2 hat2 hbel2; clear hgr2 hat2))
            have HO3 : Hid (w9.ownsRow w.heap.size 151 5 (.slice A2 (c + 1) cc) (L ++ (U ++ [(⟨a, m, pt, st, s⟩ : En)])).length (encs (L ++ (U ++ [(⟨a, m, pt, st, s⟩ : En)])))) := by
              have e1 : (L ++ (U ++ [(⟨a, m, pt, st, s⟩ : En)])).length = c + 1 := by rw [HC2.out]; simp; omega
              have e2 : encs (L ++ (U ++ [(⟨a, m, pt, st, s⟩ : En)])) = encs (L ++ U) ++ [.int .i64 a, .int .u64 (m : Int), .int .i64 pt, .bool st, .int .u32 (s : Int)] := by
                rw [← List.append_assoc, encs_append, encs_one]; rfl
              rw [e1, e2]; exact hown2
            have HB3 : Hid (Below w.heap.size w w9) := Below.trans (HB2.out.trans (Below.mono (((Below.refl wr.heap.size wr).alloc (Nat.le_refl _) _).alloc (by simp) _) hz)) hbel2
            clear hown2 hbel2
            go_wp2
            go_roundw
            case rel => exact ⟨j + 1, by omega, by go_num, by rw [HU2.out]; exact HO3, HB3⟩
            case measure => simp [intOf]; omega
        · have hjn2 : n = j := by omega
          subst hjn2
          go_wp2
          go_roundw
          case rel => exact ⟨k + 1, by omega, by go_num, by rw [HNX.out]; exact HO2, HB2⟩
          case measure => simp [intOf]; omega
    · have hkM : M = k := by omega
      subst hkM
      go_wp2
      go_ret
      exact ⟨_, rfl, HO.out, HB.out⟩
end
section
open Go.RowKit

theorem hom_one (v : Int) (m : Nat) : homeN v m 1 1 = 0 := by
  have h := (home_in (v := v) (m := m) (S := 1) (B := 1) (by omega) (by omega)).2
  omega
def R1 : Nat → Pl := (putF (fun _ => ownP pl0) ⟨1, 2, 3, false, 5⟩ 5 1).1
def R2 : Nat → Pl := (putF (fun i => ownP (R1 i)) ⟨1, 4, 1, false, 6⟩ 6 1).1
def g1 : Nat → Nat → Pl := updR (fun _ _ => pl0) 0 R1
def g2 : Nat → Nat → Pl := updR g1 0 R2
theorem t11a : (putF (fun _ => ownP pl0) ⟨1, 2, 3, false, 5⟩ 5 1).2 = 3 := by decide +kernel
theorem t11b : (putF (fun i => ownP (R1 i)) ⟨1, 4, 1, false, 6⟩ 6 1).2 = 4 := by decide +kernel
theorem t11c : portF R1 1 2 1 = 3 := by decide +kernel
theorem t11d : portF R2 1 2 1 = -1 := by decide +kernel
theorem t11e : (bookL g2 1 1).length = 1 := by decide +kernel
theorem t11f : (R1 0).e.stamp < 4294967296 := by decide +kernel
theorem told_Learn1 {w : World} {D : Nat → Prop} {p q : Nat} (h : BkAt w D p q 1 1 1 (fun _ _ => pl0)) (hD : ∀ b, D b → b < w.heap.size) (hq : D q) :
    Calls Try.prog 46 #[.pointer (some ⟨p, 0, none⟩), .agg #[.int .i64 1, .int .u64 2], .int .i64 3, .int .u32 5] w fun e w' => e = .returned (.int .i64 3) ∧ BkAt w' D p q 1 1 1 g1 ∧ But q w w' := by
  have hc := book_Learn h hD hq (by omega) (by omega) (by omega) (fun i _ j _ => by show (0 : Nat) < 4294967296; omega) 1 2 (by omega) 3 5 (by omega)
  rw [hom_one] at hc
  refine hc.mono ?_
  rintro e w' ⟨he, hb, hbt⟩
  refine ⟨he.trans ?_, hb, hbt⟩
  have := t11a
  show Ending.returned (.int .i64 (((putF (fun _ => ownP pl0) ⟨1, 2, 3, false, 5⟩ 5 1).2 : Nat) : Int)) = _
  rw [this]
  rfl
theorem told_Learn2 {w : World} {D : Nat → Prop} {p q : Nat} (h : BkAt w D p q 1 1 1 g1) (hD : ∀ b, D b → b < w.heap.size) (hq : D q) :
    Calls Try.prog 46 #[.pointer (some ⟨p, 0, none⟩), .agg #[.int .i64 1, .int .u64 4], .int .i64 1, .int .u32 6] w fun e w' => e = .returned (.int .i64 4) ∧ BkAt w' D p q 1 1 1 g2 ∧ But q w w' := by
  have hc := book_Learn h hD hq (by omega) (by omega) (by omega) (fun i hi j hj => by
    obtain rfl : i = 0 := by omega
    obtain rfl : j = 0 := by omega
    exact t11f) 1 4 (by omega) 1 6 (by omega)
  rw [hom_one] at hc
  refine hc.mono ?_
  rintro e w' ⟨he, hb, hbt⟩
  refine ⟨he.trans ?_, hb, hbt⟩
  have := t11b
  show Ending.returned (.int .i64 (((putF (fun i => ownP (R1 i)) ⟨1, 4, 1, false, 6⟩ 6 1).2 : Nat) : Int)) = _
  rw [this]
  rfl
theorem told_Lookup1 {w : World} {D : Nat → Prop} {p q : Nat} (h : BkAt w D p q 1 1 1 g1) :
    Calls Try.prog 47 #[.pointer (some ⟨p, 0, none⟩), .agg #[.int .i64 1, .int .u64 2]] w (Says (.int .i64 3) w) := by
  have hc := book_Lookup h (by omega) (by omega) (by omega) 1 2 (by omega)
  rw [hom_one] at hc
  have e : portF (g1 0) 1 2 1 = 3 := t11c
  rw [e] at hc
  exact hc
theorem told_Lookup2 {w : World} {D : Nat → Prop} {p q : Nat} (h : BkAt w D p q 1 1 1 g2) :
    Calls Try.prog 47 #[.pointer (some ⟨p, 0, none⟩), .agg #[.int .i64 1, .int .u64 2]] w (Says (.int .i64 (-1)) w) := by
  have hc := book_Lookup h (by omega) (by omega) (by omega) 1 2 (by omega)
  rw [hom_one] at hc
  have e : portF (g2 0) 1 2 1 = -1 := t11d
  rw [e] at hc
  exact hc
theorem told_List {w : World} {D : Nat → Prop} {p q : Nat} (h : BkAt w D p q 1 1 1 g2) :
    Calls Try.prog 61 #[.pointer (some ⟨p, 0, none⟩)] w fun e w' => ∃ A cap, e = .returned (.slice A 1 cap) ∧ Below w.heap.size w w' := by
  refine (book_List h (by omega) (by omega)).mono ?_
  rintro e w' ⟨v, he, ho, hb⟩
  have el : (bookL g2 1 (1 * 1)).length = 1 := t11e
  rw [el] at ho
  obtain ⟨A, cap, hv, _, _⟩ := (Sl.of_own ho).form
  exact ⟨A, cap, by rw [he, hv], hb⟩
end
section
open Go.RowKit

theorem home0 (v : Int) (m : Nat) (hm : m < 18446744073709551616) (w : World) :
    Calls Try.prog 82 #[.pointer none, .agg #[.int .i64 v, .int .u64 (m : Int)]] w (Says (.int .i64 (-1)) w) := by
  have h := book_home (SizeOf.none_ w) (by omega) (by omega) (by omega) v m hm
  rw [home_none] at h
  exact h
theorem at0 (s n : Int) (w : World) :
    Calls Try.prog 87 #[.pointer none, .int .i64 s, .int .i64 n] w (Says (.int .i64 (-1)) w) := by
  have h := book_at (SizeOf.none_ w) (by omega) (by omega) (by omega) s n
  have e : atI 0 0 s n = -1 := if_neg (by omega)
  rw [e] at h
  exact h
set_option maxHeartbeats 1600000 in
theorem book_Lookup0 (v : Int) (m : Nat) (hm : m < 18446744073709551616) (w : World) :
    Calls Try.prog 47 #[.pointer none, .agg #[.int .i64 v, .int .u64 (m : Int)]] w (Says (.int .i64 (-1)) w) := by
  have HH := Lib.hid fun w => home0 v m hm w
  clear hm
  go_enter Try.func47, Try.ntmps47
  go_wp2_with fail
  refine (HH.out _).mono ?_
  rintro e w1 ⟨rfl, hb⟩
  have HB1 : Hid (Below w.heap.size w w1) := Below.trans ((Below.refl _ _).alloc (Nat.le_refl _) _) (hb.mono (by simp))
  clear hb
  go_wp2
  go_ret
  exact ⟨rfl, HB1.out⟩
set_option maxHeartbeats 1600000 in
theorem book_Learn0 (v : Int) (m : Nat) (hm : m < 18446744073709551616) (port : Int) (now : Int) (w : World) :
    Calls Try.prog 46 #[.pointer none, .agg #[.int .i64 v, .int .u64 (m : Int)], .int .i64 port, .int .u32 now] w (Says (.int .i64 5) w) := by
  have HH := Lib.hid fun w => home0 v m hm w
  clear hm
  go_enter Try.func46, Try.ntmps46
  go_wp2_with fail
  refine (HH.out _).mono ?_
  rintro e w1 ⟨rfl, hb⟩
  have HB1 : Hid (Below w.heap.size w w1) := Below.trans ((Below.refl _ _).alloc (Nat.le_refl _) _) (hb.mono (by simp))
  clear hb
  go_wp2
  go_ret
  exact ⟨rfl, HB1.out⟩
set_option maxHeartbeats 1600000 in
theorem book_Order0 (v : Int) (m : Nat) (hm : m < 18446744073709551616) (port : Int) (now : Int) (w : World) :
    Calls Try.prog 48 #[.pointer none, .agg #[.int .i64 v, .int .u64 (m : Int)], .int .i64 port, .int .u32 now] w (Says (.int .i64 5) w) := by
  have HH := Lib.hid fun w => home0 v m hm w
  clear hm
  go_enter Try.func48, Try.ntmps48
  go_wp2_with fail
  refine (HH.out _).mono ?_
  rintro e w1 ⟨rfl, hb⟩
  have HB1 : Hid (Below w.heap.size w w1) := Below.trans ((Below.refl _ _).alloc (Nat.le_refl _) _) (hb.mono (by simp))
  clear hb
  go_wp2
  go_ret
  exact ⟨rfl, HB1.out⟩
set_option maxHeartbeats 1600000 in
theorem book_Drop0 (v : Int) (m : Nat) (hm : m < 18446744073709551616) (w : World) :
    Calls Try.prog 50 #[.pointer none, .agg #[.int .i64 v, .int .u64 (m : Int)]] w (Says (.bool false) w) := by
  have HH := Lib.hid fun w => home0 v m hm w
  clear hm
  go_enter Try.func50, Try.ntmps50
  go_wp2_with fail
  refine (HH.out _).mono ?_
  rintro e w1 ⟨rfl, hb⟩
  have HB1 : Hid (Below w.heap.size w w1) := Below.trans ((Below.refl _ _).alloc (Nat.le_refl _) _) (hb.mono (by simp))
  clear hb
  go_wp2
  go_ret
  exact ⟨rfl, HB1.out⟩
set_option maxHeartbeats 1600000 in
theorem book_Age0 (s n : Int) (now lim : Int) (w : World) :
    Calls Try.prog 51 #[.pointer none, .int .i64 s, .int .i64 n, .int .u32 now, .int .u32 lim] w (Says (.int .i64 0) w) := by
  have HH := Lib.hid fun w => at0 s n w
  go_enter Try.func51, Try.ntmps51
  go_wp2_with fail
  refine (HH.out _).mono ?_
  rintro e w1 ⟨rfl, hb⟩
  have HB1 : Hid (Below w.heap.size w w1) := hb
  clear hb
  go_wp2
  go_ret
  exact ⟨rfl, HB1.out⟩
set_option maxHeartbeats 1600000 in
theorem book_Bucket0 (s n : Int) (w : World) :
    Calls Try.prog 64 #[.pointer none, .int .i64 s, .int .i64 n] w (Says (.slice none 0 0) w) := by
  have HH := Lib.hid fun w => at0 s n w
  go_enter Try.func64, Try.ntmps64
  go_wp2_with fail
  refine (HH.out _).mono ?_
  rintro e w1 ⟨rfl, hb⟩
  have HB1 : Hid (Below w.heap.size w w1) := hb
  clear hb
  go_wp2
  go_ret
  exact ⟨rfl, HB1.out⟩
set_option maxHeartbeats 1600000 in
theorem book_Flush0 (a b : Int) (w : World) :
    Calls Try.prog 52 #[.pointer none, .agg #[.int .i64 a, .int .i64 b]] w (Says (.int .i64 0) w) := by
  go_enter Try.func52, Try.ntmps52
  go_wp2
  go_ret
  exact ⟨rfl, (by (repeat' (first | (with_reducible exact Below.refl _ _) | (with_reducible refine Below.alloc ?_ ?_ _) | go_size)))⟩
set_option maxHeartbeats 1600000 in
theorem book_Copy0  (w : World) :
    Calls Try.prog 59 #[.pointer none] w (Says (.pointer none) w) := by
  go_enter Try.func59, Try.ntmps59
  go_wp2
  go_ret
  exact ⟨rfl, (by (repeat' (first | (with_reducible exact Below.refl _ _) | (with_reducible refine Below.alloc ?_ ?_ _) | go_size)))⟩
theorem kind7 (kd : Int) : ∃ K : Nat, K < 7 ∧ wrap64 ((IntKind.u64.wrap kd).tmod 7) = (K : Int) ∧ IntKind.i64.wrap ((IntKind.u64.wrap kd).tmod 7) = (K : Int) := by
  have h1 : 0 ≤ IntKind.u64.wrap kd := by rw [IntKind.wrap_u64]; omega
  rw [Int.tmod_eq_emod_of_nonneg h1]
  refine ⟨(IntKind.u64.wrap kd % 7).toNat, by omega, ?_, ?_⟩
  · rw [IntWalk.wrap64_in _ (by omega)]; omega
  · rw [IntWalk.i64_in _ (by omega)]; omega
def wantN (K : Nat) : Int := [-1, 5, 5, 5, 0, 0, 0].getD K 0
set_option maxHeartbeats 800000 in
theorem law11_To (a b c : Int) (w : World) :
    Calls Try.prog 37 #[.agg #[.int .i64 a, .int .i64 b, .int .i64 c]] w (Says (.agg #[.int .i64 a, .int .i64 b, .int .i64 c]) w) := by
  go_enter Try.func37, Try.ntmps37
  go_wp2
  exact bodyPost_ret (v := .agg #[.int .i64 a, .int .i64 b, .int .i64 c]) (by simp [results, Try.results37, go_sem]) rfl ⟨rfl, (by (repeat' (first | (with_reducible exact Below.refl _ _) | (with_reducible refine Below.setCell ?_ ?_ _) | (with_reducible refine Below.alloc ?_ ?_ _) | go_size)))⟩
set_option maxHeartbeats 6400000 in
theorem ref11_Right (a b c : Int) (w : World) :
    Calls Try.prog 32 #[.agg #[.int .i64 a, .int .i64 b, .int .i64 c]] w (Says (.bool (rightS a b c)) w) := by
  unfold rightS inB
  by_cases h1 : 1 ≤ a
  · have d1 : decide (1 ≤ a) = true := by simpa using h1
    by_cases h2 : a ≤ 8
    · have d2 : decide (a ≤ 8) = true := by simpa using h2
      by_cases h3 : 1 ≤ b
      · have d3 : decide (1 ≤ b) = true := by simpa using h3
        by_cases h4 : b ≤ 16
        · have d4 : decide (b ≤ 16) = true := by simpa using h4
          by_cases h5 : 1 ≤ c
          · have d5 : decide (1 ≤ c) = true := by simpa using h5
            by_cases h6 : c ≤ 8
            · have d6 : decide (c ≤ 8) = true := by simpa using h6
              rw [d1, d2, d3, d4, d5, d6]
              clear d1 d2 d3 d4 d5 d6
              go_enter Try.func32, Try.ntmps32
              go_wp2
              go_ret
              exact ⟨by simp, (Below.refl _ _).alloc (Nat.le_refl _) _⟩
            · have d6 : decide (c ≤ 8) = false := by simpa using h6
              rw [d1, d2, d3, d4, d5, d6]
              clear d1 d2 d3 d4 d5 d6
              go_enter Try.func32, Try.ntmps32
              go_wp2
              go_ret
              exact ⟨by simp, (Below.refl _ _).alloc (Nat.le_refl _) _⟩
          · have d5 : decide (1 ≤ c) = false := by simpa using h5
            rw [d1, d2, d3, d4, d5]
            clear d1 d2 d3 d4 d5
            go_enter Try.func32, Try.ntmps32
            go_wp2
            go_ret
            exact ⟨by simp, (Below.refl _ _).alloc (Nat.le_refl _) _⟩
        · have d4 : decide (b ≤ 16) = false := by simpa using h4
          rw [d1, d2, d3, d4]
          clear d1 d2 d3 d4
          go_enter Try.func32, Try.ntmps32
          go_wp2
          go_ret
          exact ⟨by simp, (Below.refl _ _).alloc (Nat.le_refl _) _⟩
      · have d3 : decide (1 ≤ b) = false := by simpa using h3
        rw [d1, d2, d3]
        clear d1 d2 d3
        go_enter Try.func32, Try.ntmps32
        go_wp2
        go_ret
        exact ⟨by simp, (Below.refl _ _).alloc (Nat.le_refl _) _⟩
    · have d2 : decide (a ≤ 8) = false := by simpa using h2
      rw [d1, d2]
      clear d1 d2
      go_enter Try.func32, Try.ntmps32
      go_wp2
      go_ret
      exact ⟨by simp, (Below.refl _ _).alloc (Nat.le_refl _) _⟩
  · have d1 : decide (1 ≤ a) = false := by simpa using h1
    rw [d1]
    clear d1
    go_enter Try.func32, Try.ntmps32
    go_wp2
    go_ret
    exact ⟨by simp, (Below.refl _ _).alloc (Nat.le_refl _) _⟩
end
section
open Go.RowKit

set_option maxRecDepth 20000 in
set_option maxHeartbeats 6400000 in
theorem book_Order {w : World} {D : Nat → Prop} {p q S B n : Nat} {g : Nat → Nat → Pl} (h : BkAt w D p q S B n g) (hD : ∀ b, D b → b < w.heap.size) (hq : D q) (hS : 1 ≤ S ∧ S ≤ 8) (hB : 1 ≤ B ∧ B ≤ 16) (hn : n ≤ 1000000) (hst : ∀ i, i < S * B → ∀ j, j < n → (g i j).e.stamp < 4294967296)
    (v : Int) (m : Nat) (hm : m < 18446744073709551616) (port : Int) (now : Nat) (hnow : now < 4294967296) :
    Calls Try.prog 48 #[.pointer (some ⟨p, 0, none⟩), .agg #[.int .i64 v, .int .u64 (m : Int)], .int .i64 port, .int .u32 (now : Int)] w fun e w' =>
      e = .returned (.int .i64 ((putF (fun i => ownP (g (homeN v m S B) i)) ⟨v, m, port, true, 0⟩ now n).2 : Nat)) ∧ BkAt w' D p q S B n (updR g (homeN v m S B) (putF (fun i => ownP (g (homeN v m S B) i)) ⟨v, m, port, true, 0⟩ now n).1) ∧ But q w w' := by
  obtain ⟨M, hM⟩ : ∃ M, M = S * B := ⟨_, rfl⟩
  obtain ⟨H, hH⟩ : ∃ H, H = homeN v m S B := ⟨_, rfl⟩
  have hhome := home_in (v := v) (m := m) hS.1 hB.1
  rw [← hH, ← hM] at hhome
  obtain ⟨hh1, hh2⟩ := hhome
  have hMB : M ≤ 128 := by rw [hM]; exact Nat.mul_le_mul hS.2 hB.2
  have hhm := fun w' (hb : Below w.heap.size w w') => book_home ((SizeOf.of h).call hb) (by omega) (by omega) (by omega) v m hm
  rw [hh1] at hhm
  have HHM := Lib.hid hhm
  have HBK := Lib.hid h
  have HM := Lib.hid hM
  clear hhm hh1 hM
  have HL := Lib.hid fun w u (hr : PlRow w w.heap.size u n (g H)) => bucket_Order hn hr (Nat.le_refl _) (hst H (by rw [← HM.out]; exact hh2)) v m hm port now hnow
  rw [← hH]
  generalize (putF (fun i => ownP (g H i)) ⟨v, m, port, true, 0⟩ now n) = r at *
  obtain ⟨r1, r2⟩ := r
  simp only at HL ⊢
  have HD := Lib.hid hD
  clear hst hn hm hnow hH hD h
  go_enter Try.func48, Try.ntmps48
  go_wp2_with fail
  refine (HHM.out _ ((Below.refl _ _).alloc (Nat.le_refl _) _)).mono ?_
  rintro e w2 ⟨rfl, hb⟩
  have HB2 : Hid (Below w.heap.size w w2) := Below.trans ((Below.refl _ _).alloc (Nat.le_refl _) _) (hb.mono (by simp))
  have s0 : w2.cell? ⟨w.heap.size, 0, none⟩ = some (.int .i64 v) := by rw [(bcell hb).1 _ _ (by simp)]; simp [go_sem]
  have s1 : w2.cell? ⟨w.heap.size, 1, none⟩ = some (.int .u64 (m : Int)) := by rw [(bcell hb).1 _ _ (by simp)]; simp [go_sem]
  have hz2 : w.heap.size + 1 ≤ w2.heap.size := by have := hb.size; simpa using this
  have HBK2 := Lib.hid (HBK.out.call HB2.out)
  clear hb HHM
  obtain ⟨hp, hq0, hpq, _, _, _, ⟨cap, c1, c2, s2⟩, hfz, hrows⟩ := HBK2.out
  have hpw : p < w.heap.size := HBK.out.1
  have hqw : q < w.heap.size := HBK.out.2.1
  rw [← HM.out] at c1 s2 hrows
  obtain ⟨v0, s3, hrow⟩ := hrows H hh2
  unfold maxLen at c2
  have g0 : (0 : Int) ≤ (H : Int) := Int.natCast_nonneg _
  have g1 : (H : Int) < (M : Int) := by omega
  have g2 : (H : Int) ≥ 0 := g0
  have HROW := Lib.hid hrow.row
  clear hrow hrows
  go_wp2_with fail
  refine wp_region_held_drew (S := fun w' => w'.cell? ⟨p, 3, none⟩ = some (.slice (some ⟨q, 0, none⟩) M cap) ∧ w'.cell? ⟨w.heap.size, 0, none⟩ = some (.int .i64 v) ∧ w'.cell? ⟨w.heap.size, 1, none⟩ = some (.int .u64 (m : Int))) (by kernel_rfl) ?_ (fun hHeld => ?_)
  · exact ⟨s2, s0, s1⟩
  refine wpAnyH_take (i := 0) (oi := { dst := some 17, op := Go.Op.move (Go.Operand.tmp 0), type := 98, pos := "book.go:75", after := #[], guard := none }) (v := ?_) rfl (by kernel_rfl) (by kernel_rfl) (by kernel_rfl) (fun _ _ _ h => h) (Or.inl ⟨by rfl, ?_⟩) (by assumption) ?_
  rotate_left
  · intro w hSw
    (try dsimp only at hSw)
    go_simp
    try with_reducible rfl
  (try simp only [Act.put, List.setIfInBounds_toArray, List.set_cons_zero, List.set_cons_succ])
  refine wpAnyH_take (i := 1) (oi := { dst := some 18, op := Go.Op.nilCheck (Go.Operand.tmp 17), type := 0, pos := "book.go:75", after := #[{ on := 0, ground := Go.Ground.data }], guard := none }) (v := ?_) rfl (by kernel_rfl) (by kernel_rfl) (by kernel_rfl) (fun _ _ _ h => h) (Or.inl ⟨by rfl, ?_⟩) (by assumption) ?_
  rotate_left
  · intro w hSw
    (try dsimp only at hSw)
    go_simp
    try with_reducible rfl
  (try simp only [Act.put, List.setIfInBounds_toArray, List.set_cons_zero, List.set_cons_succ])
  refine wpAnyH_take (i := 2) (oi := { dst := some 19, op := Go.Op.fieldAddr 143 (Go.Operand.tmp 18) 1, type := 0, pos := "book.go:75", after := #[{ on := 1, ground := Go.Ground.data }], guard := none }) (v := ?_) rfl (by kernel_rfl) (by kernel_rfl) (by kernel_rfl) (fun _ _ _ h => h) (Or.inl ⟨by rfl, ?_⟩) (by assumption) ?_
  rotate_left
  · intro w hSw
    (try dsimp only at hSw)
    go_simp
    try with_reducible rfl
  (try simp only [Act.put, List.setIfInBounds_toArray, List.set_cons_zero, List.set_cons_succ])
  refine wpAnyH_take (i := 3) (oi := { dst := some 20, op := Go.Op.load 60 (Go.Operand.tmp 19), type := 60, pos := "book.go:75", after := #[{ on := 2, ground := Go.Ground.data }], guard := none }) (v := ?_) rfl (by kernel_rfl) (by kernel_rfl) (by kernel_rfl) (fun _ _ _ h => h) (Or.inl ⟨by rfl, ?_⟩) (by assumption) ?_
  rotate_left
  · intro w hSw
    (try dsimp only at hSw)
    go_simp
    try with_reducible rfl
  (try simp only [Act.put, List.setIfInBounds_toArray, List.set_cons_zero, List.set_cons_succ])
  refine wpAnyH_take (i := 4) (oi := { dst := some 21, op := Go.Op.move (Go.Operand.tmp 9), type := 3, pos := "book.go:75", after := #[], guard := none }) (v := ?_) rfl (by kernel_rfl) (by kernel_rfl) (by kernel_rfl) (fun _ _ _ h => h) (Or.inl ⟨by rfl, ?_⟩) (by assumption) ?_
  rotate_left
  · intro w hSw
    (try dsimp only at hSw)
    go_simp
    try with_reducible rfl
  (try simp only [Act.put, List.setIfInBounds_toArray, List.set_cons_zero, List.set_cons_succ])
  refine wpAnyH_take (i := 5) (oi := { dst := some 22, op := Go.Op.move (Go.Operand.tmp 0), type := 98, pos := "book.go:75", after := #[], guard := none }) (v := ?_) rfl (by kernel_rfl) (by kernel_rfl) (by kernel_rfl) (fun _ _ _ h => h) (Or.inl ⟨by rfl, ?_⟩) (by assumption) ?_
  rotate_left
  · intro w hSw
    (try dsimp only at hSw)
    go_simp
    try with_reducible rfl
  (try simp only [Act.put, List.setIfInBounds_toArray, List.set_cons_zero, List.set_cons_succ])
  refine wpAnyH_take (i := 6) (oi := { dst := some 23, op := Go.Op.nilCheck (Go.Operand.tmp 22), type := 0, pos := "book.go:75", after := #[{ on := 5, ground := Go.Ground.data }], guard := none }) (v := ?_) rfl (by kernel_rfl) (by kernel_rfl) (by kernel_rfl) (fun _ _ _ h => h) (Or.inl ⟨by rfl, ?_⟩) (by assumption) ?_
  rotate_left
  · intro w hSw
    (try dsimp only at hSw)
    go_simp
    try with_reducible rfl
  (try simp only [Act.put, List.setIfInBounds_toArray, List.set_cons_zero, List.set_cons_succ])
  refine wpAnyH_take (i := 7) (oi := { dst := some 24, op := Go.Op.fieldAddr 143 (Go.Operand.tmp 23) 1, type := 0, pos := "book.go:75", after := #[{ on := 6, ground := Go.Ground.data }], guard := none }) (v := ?_) rfl (by kernel_rfl) (by kernel_rfl) (by kernel_rfl) (fun _ _ _ h => h) (Or.inl ⟨by rfl, ?_⟩) (by assumption) ?_
  rotate_left
  · intro w hSw
    (try dsimp only at hSw)
    go_simp
    try with_reducible rfl
  (try simp only [Act.put, List.setIfInBounds_toArray, List.set_cons_zero, List.set_cons_succ])
  refine wpAnyH_take (i := 8) (oi := { dst := some 25, op := Go.Op.load 60 (Go.Operand.tmp 24), type := 60, pos := "book.go:75", after := #[{ on := 7, ground := Go.Ground.data }], guard := none }) (v := ?_) rfl (by kernel_rfl) (by kernel_rfl) (by kernel_rfl) (fun _ _ _ h => h) (Or.inl ⟨by rfl, ?_⟩) (by assumption) ?_
  rotate_left
  · intro w hSw
    (try dsimp only at hSw)
    go_simp
    try with_reducible rfl
  (try simp only [Act.put, List.setIfInBounds_toArray, List.set_cons_zero, List.set_cons_succ])
  refine wpAnyH_take (i := 9) (oi := { dst := some 26, op := Go.Op.move (Go.Operand.tmp 9), type := 3, pos := "book.go:75", after := #[], guard := none }) (v := ?_) rfl (by kernel_rfl) (by kernel_rfl) (by kernel_rfl) (fun _ _ _ h => h) (Or.inl ⟨by rfl, ?_⟩) (by assumption) ?_
  rotate_left
  · intro w hSw
    (try dsimp only at hSw)
    go_simp
    try with_reducible rfl
  (try simp only [Act.put, List.setIfInBounds_toArray, List.set_cons_zero, List.set_cons_succ])
  refine wpAnyH_take (i := 10) (oi := { dst := some 27, op := Go.Op.indexAddr 60 (Go.Operand.tmp 25) (Go.Operand.tmp 26), type := 0, pos := "book.go:75", after := #[{ on := 8, ground := Go.Ground.data }, { on := 9, ground := Go.Ground.data }], guard := none }) (v := ?_) rfl (by kernel_rfl) (by kernel_rfl) (by kernel_rfl) (fun _ _ _ h => h) (Or.inl ⟨by rfl, ?_⟩) (by assumption) ?_
  rotate_left
  · intro w hSw
    (try dsimp only at hSw)
    go_simp
    try with_reducible rfl
  (try simp only [Act.put, List.setIfInBounds_toArray, List.set_cons_zero, List.set_cons_succ])
  refine wpAnyH_take (i := 12) (oi := { dst := some 29, op := Go.Op.load 47 (Go.Operand.tmp 5), type := 47, pos := "book.go:75", after := #[], guard := none }) (v := ?_) rfl (by kernel_rfl) (by kernel_rfl) (by kernel_rfl) (fun _ _ _ h => h) (Or.inl ⟨by rfl, ?_⟩) (by assumption) ?_
  rotate_left
  · intro w hSw
    (try dsimp only at hSw)
    go_simp
    try with_reducible rfl
  (try simp only [Act.put, List.setIfInBounds_toArray, List.set_cons_zero, List.set_cons_succ])
  refine wpAnyH_take (i := 13) (oi := { dst := some 30, op := Go.Op.move (Go.Operand.tmp 2), type := 3, pos := "book.go:75", after := #[], guard := none }) (v := ?_) rfl (by kernel_rfl) (by kernel_rfl) (by kernel_rfl) (fun _ _ _ h => h) (Or.inl ⟨by rfl, ?_⟩) (by assumption) ?_
  rotate_left
  · intro w hSw
    (try dsimp only at hSw)
    go_simp
    try with_reducible rfl
  (try simp only [Act.put, List.setIfInBounds_toArray, List.set_cons_zero, List.set_cons_succ])
  refine wpAnyH_take (i := 14) (oi := { dst := some 31, op := Go.Op.move (Go.Operand.tmp 3), type := 26, pos := "book.go:75", after := #[], guard := none }) (v := ?_) rfl (by kernel_rfl) (by kernel_rfl) (by kernel_rfl) (fun _ _ _ h => h) (Or.inl ⟨by rfl, ?_⟩) (by assumption) ?_
  rotate_left
  · intro w hSw
    (try dsimp only at hSw)
    go_simp
    try with_reducible rfl
  (try simp only [Act.put, List.setIfInBounds_toArray, List.set_cons_zero, List.set_cons_succ])
  refine wpAnyH_ready (rs := [11]) (by kernel_rfl) (by simp) ?_
  refine AllReadyH.cons (o := { dst := some 28, op := Go.Op.load 57 (Go.Operand.tmp 27), type := 57, pos := "book.go:75", after := #[{ on := 10, ground := Go.Ground.data }], guard := none }) rfl (fun K hK => ?_) AllReadyH.nil
  go_simp

  refine hK.out _ _ ?_ (fun hHeld => ?_)
  · (try dsimp only)
    exact hHeld
  clear hK K
  (try simp only [Act.put, List.setIfInBounds_toArray, List.set_cons_zero, List.set_cons_succ])
  refine wpAnyH_ready (rs := [15]) (by kernel_rfl) (by simp) ?_
  refine AllReadyH.cons (o := { dst := some 32, op := Go.Op.call { callee := Go.Callee.value (Go.Operand.func 85), args := #[Go.Operand.tmp 28, Go.Operand.tmp 29, Go.Operand.tmp 30, Go.Operand.tmp 31], argTypes := #[57, 47, 3, 26] }, type := 147, pos := "book.go:75", after := #[{ on := 11, ground := Go.Ground.data }, { on := 12, ground := Go.Ground.data }, { on := 13, ground := Go.Ground.data }, { on := 14, ground := Go.Ground.data }], guard := none }) rfl (fun K hK => ?_) AllReadyH.nil
  go_simp
  refine Calls.mono (HL.out _ _ (HROW.out.below (by (repeat' (first | (with_reducible exact Below.refl _ _) | (with_reducible assumption) | (with_reducible refine Below.setCell ?_ ?_ _) | (with_reducible refine Below.alloc ?_ ?_ _) | (with_reducible refine below_drewN ?_ _) | (with_reducible refine Below.drew ?_) | go_size))))) ?_
  intro e w4 hpost
  obtain ⟨va, he, hra, hb⟩ := hpost
  subst he
  have HRA := Lib.hid hra
  obtain ⟨Av, cv, hva, _⟩ := hra
  subst hva
  have hbd : Below w2.heap.size w2 w4 := ((Below.refl w2.heap.size w2).drew).trans hb
  have HBK4 := Lib.hid (HBK2.out.call hbd)
  have s4 := (hbd.cell (p := ⟨q, H, none⟩) hq0).trans s3
  have f4 : ∀ o, w4.frozen? ⟨q, o, none⟩ = false := HBK4.out.2.2.2.2.2.2.2.1
  have hz4 := hbd.size
  refine hK.out _ _ ?_ (fun hHeld => ?_)
  · (try dsimp only)
    obtain ⟨q0, q1, q2⟩ := hHeld
    exact ⟨(hb.cell (p := ⟨p, _, none⟩) (by show p < w2.heap.size; omega)).trans q0, (hb.cell (p := ⟨w.heap.size, _, none⟩) (by show w.heap.size < w2.heap.size; omega)).trans q1, (hb.cell (p := ⟨w.heap.size, _, none⟩) (by show w.heap.size < w2.heap.size; omega)).trans q2⟩
  clear hK K
  refine wpAnyH_take (i := 16) (oi := { dst := some 16, op := Go.Op.move (Go.Operand.tmp 32), type := 147, pos := "book.go:75", after := #[{ on := 15, ground := Go.Ground.data }], guard := none }) (v := ?_) rfl (by kernel_rfl) (by kernel_rfl) (by kernel_rfl) (fun _ _ _ h => h) (Or.inl ⟨by rfl, ?_⟩) (by assumption) ?_
  rotate_left
  · intro w hSw
    (try dsimp only at hSw)
    go_simp
    try with_reducible rfl
  (try simp only [Act.put, List.setIfInBounds_toArray, List.set_cons_zero, List.set_cons_succ])
  refine wpAnyH_take (i := 17) (oi := { dst := some 33, op := Go.Op.extract (Go.Operand.tmp 16) 0, type := 57, pos := "book.go:75", after := #[{ on := 16, ground := Go.Ground.data }], guard := none }) (v := ?_) rfl (by kernel_rfl) (by kernel_rfl) (by kernel_rfl) (fun _ _ _ h => h) (Or.inl ⟨by rfl, ?_⟩) (by assumption) ?_
  rotate_left
  · intro w hSw
    (try dsimp only at hSw)
    go_simp
    try with_reducible rfl
  (try simp only [Act.put, List.setIfInBounds_toArray, List.set_cons_zero, List.set_cons_succ])
  refine wpAnyH_take (i := 18) (oi := { dst := some 34, op := Go.Op.extract (Go.Operand.tmp 16) 1, type := 3, pos := "book.go:75", after := #[{ on := 16, ground := Go.Ground.data }, { on := 20, ground := Go.Ground.gcOnly Go.Departure.lateStores }], guard := none }) (v := ?_) rfl (by kernel_rfl) (by kernel_rfl) (by kernel_rfl) (fun _ _ _ h => h) (Or.inl ⟨by rfl, ?_⟩) (by assumption) ?_
  rotate_left
  · intro w hSw
    (try dsimp only at hSw)
    go_simp
    try with_reducible rfl
  (try simp only [Act.put, List.setIfInBounds_toArray, List.set_cons_zero, List.set_cons_succ])
  refine wpAnyH_take (i := 19) (oi := { dst := some 35, op := Go.Op.indexAddr 60 (Go.Operand.tmp 20) (Go.Operand.tmp 21), type := 0, pos := "book.go:75", after := #[{ on := 3, ground := Go.Ground.data }, { on := 4, ground := Go.Ground.data }, { on := 0, ground := Go.Ground.phase }, { on := 1, ground := Go.Ground.phase }, { on := 2, ground := Go.Ground.phase }, { on := 3, ground := Go.Ground.phase }, { on := 4, ground := Go.Ground.phase }, { on := 5, ground := Go.Ground.phase }, { on := 6, ground := Go.Ground.phase }, { on := 7, ground := Go.Ground.phase }, { on := 8, ground := Go.Ground.phase }, { on := 9, ground := Go.Ground.phase }, { on := 10, ground := Go.Ground.phase }, { on := 11, ground := Go.Ground.phase }, { on := 12, ground := Go.Ground.phase }, { on := 13, ground := Go.Ground.phase }, { on := 14, ground := Go.Ground.phase }, { on := 15, ground := Go.Ground.phase }, { on := 16, ground := Go.Ground.phase }, { on := 17, ground := Go.Ground.phase }, { on := 18, ground := Go.Ground.textOnly Go.Departure.lateStores }], guard := none }) (v := ?_) rfl (by kernel_rfl) (by kernel_rfl) (by kernel_rfl) (fun _ _ _ h => h) (Or.inl ⟨by rfl, ?_⟩) (by assumption) ?_
  rotate_left
  · intro w hSw
    (try dsimp only at hSw)
    go_simp
    try with_reducible rfl
  (try simp only [Act.put, List.setIfInBounds_toArray, List.set_cons_zero, List.set_cons_succ])
  refine wpAnyH_ready (rs := [20]) (by kernel_rfl) (by simp) ?_
  refine AllReadyH.cons (o := { dst := none, op := Go.Op.store 57 (Go.Operand.tmp 35) (Go.Operand.tmp 33), type := 0, pos := "book.go:75", after := #[{ on := 19, ground := Go.Ground.data }, { on := 17, ground := Go.Ground.data }, { on := 15, ground := Go.Ground.chain }, { on := 0, ground := Go.Ground.phase }, { on := 1, ground := Go.Ground.phase }, { on := 2, ground := Go.Ground.phase }, { on := 3, ground := Go.Ground.phase }, { on := 4, ground := Go.Ground.phase }, { on := 5, ground := Go.Ground.phase }, { on := 6, ground := Go.Ground.phase }, { on := 7, ground := Go.Ground.phase }, { on := 8, ground := Go.Ground.phase }, { on := 9, ground := Go.Ground.phase }, { on := 10, ground := Go.Ground.phase }, { on := 11, ground := Go.Ground.phase }, { on := 12, ground := Go.Ground.phase }, { on := 13, ground := Go.Ground.phase }, { on := 14, ground := Go.Ground.phase }, { on := 15, ground := Go.Ground.phase }, { on := 16, ground := Go.Ground.phase }, { on := 17, ground := Go.Ground.phase }, { on := 18, ground := Go.Ground.textOnly Go.Departure.lateStores }], guard := none }) rfl (fun K hK => ?_) AllReadyH.nil
  go_simp

  refine hK.out _ _ ?_ (fun hHeld => ?_)
  · (try dsimp only)
    obtain ⟨q0, q1, q2⟩ := hHeld
    exact ⟨((But.set H _).cell (show p < w4.heap.size by omega) (show p ≠ q by omega)).trans q0, ((But.set H _).cell (show w.heap.size < w4.heap.size by omega) (show w.heap.size ≠ q by omega)).trans q1, ((But.set H _).cell (show w.heap.size < w4.heap.size by omega) (show w.heap.size ≠ q by omega)).trans q2⟩
  clear hK K
  (try simp only [Act.put, List.setIfInBounds_toArray, List.set_cons_zero, List.set_cons_succ])
  refine wpAnyH_take (i := 21) (oi := { dst := some 10, op := Go.Op.assign (Go.Operand.tmp 34), type := 3, pos := "book.go:75", after := #[{ on := 18, ground := Go.Ground.data }, { on := 20, ground := Go.Ground.chain }, { on := 0, ground := Go.Ground.phase }, { on := 1, ground := Go.Ground.phase }, { on := 2, ground := Go.Ground.phase }, { on := 3, ground := Go.Ground.phase }, { on := 4, ground := Go.Ground.phase }, { on := 5, ground := Go.Ground.phase }, { on := 6, ground := Go.Ground.phase }, { on := 7, ground := Go.Ground.phase }, { on := 8, ground := Go.Ground.phase }, { on := 9, ground := Go.Ground.phase }, { on := 10, ground := Go.Ground.phase }, { on := 11, ground := Go.Ground.phase }, { on := 12, ground := Go.Ground.phase }, { on := 13, ground := Go.Ground.phase }, { on := 14, ground := Go.Ground.phase }, { on := 15, ground := Go.Ground.phase }, { on := 16, ground := Go.Ground.phase }, { on := 17, ground := Go.Ground.phase }, { on := 18, ground := Go.Ground.phase }, { on := 19, ground := Go.Ground.phase }, { on := 20, ground := Go.Ground.phase }], guard := none }) (v := ?_) rfl (by kernel_rfl) (by kernel_rfl) (by kernel_rfl) (fun _ _ _ h => h) (Or.inl ⟨by rfl, ?_⟩) (by assumption) ?_
  rotate_left
  · intro w hSw
    (try dsimp only at hSw)
    go_simp
    try with_reducible rfl
  (try simp only [Act.put, List.setIfInBounds_toArray, List.set_cons_zero, List.set_cons_succ])
  refine wpAnyH_done (by kernel_rfl) ?_ _
  go_wp2
  go_ret
  refine ⟨by first | rfl | (simp; done), ?_, ?_⟩
  · exact HBK4.out.put (by rw [← HM.out]; exact hh2) (PlRowD.of_own HRA.out fun b hb => by have := HD.out b hb; show b < w2.heap.size; omega) hq
  · exact ((But.of HB2.out (by omega)).trans (But.of hbd (by omega))).trans (But.set H _)
set_option maxRecDepth 20000 in
set_option maxHeartbeats 6400000 in
theorem book_Drop {w : World} {D : Nat → Prop} {p q S B n : Nat} {g : Nat → Nat → Pl} (h : BkAt w D p q S B n g) (hD : ∀ b, D b → b < w.heap.size) (hq : D q) (hS : 1 ≤ S ∧ S ≤ 8) (hB : 1 ≤ B ∧ B ≤ 16) (hn : n ≤ 1000000) 
    (v : Int) (m : Nat) (hm : m < 18446744073709551616) :
    Calls Try.prog 50 #[.pointer (some ⟨p, 0, none⟩), .agg #[.int .i64 v, .int .u64 (m : Int)]] w fun e w' =>
      e = .returned (.bool (dropF (fun i => ownP (g (homeN v m S B) i)) v m n).2) ∧ BkAt w' D p q S B n (updR g (homeN v m S B) (dropF (fun i => ownP (g (homeN v m S B) i)) v m n).1) ∧ But q w w' := by
  obtain ⟨M, hM⟩ : ∃ M, M = S * B := ⟨_, rfl⟩
  obtain ⟨H, hH⟩ : ∃ H, H = homeN v m S B := ⟨_, rfl⟩
  have hhome := home_in (v := v) (m := m) hS.1 hB.1
  rw [← hH, ← hM] at hhome
  obtain ⟨hh1, hh2⟩ := hhome
  have hMB : M ≤ 128 := by rw [hM]; exact Nat.mul_le_mul hS.2 hB.2
  have hhm := fun w' (hb : Below w.heap.size w w') => book_home ((SizeOf.of h).call hb) (by omega) (by omega) (by omega) v m hm
  rw [hh1] at hhm
  have HHM := Lib.hid hhm
  have HBK := Lib.hid h
  have HM := Lib.hid hM
  clear hhm hh1 hM
  have HL := Lib.hid fun w u (hr : PlRow w w.heap.size u n (g H)) => bucket_Drop hn hr (Nat.le_refl _) v m
  rw [← hH]
  generalize (dropF (fun i => ownP (g H i)) v m n) = r at *
  obtain ⟨r1, r2⟩ := r
  simp only at HL ⊢
  have HD := Lib.hid hD
  clear hn hm hH hD h
  go_enter Try.func50, Try.ntmps50
  go_wp2_with fail
  refine (HHM.out _ ((Below.refl _ _).alloc (Nat.le_refl _) _)).mono ?_
  rintro e w2 ⟨rfl, hb⟩
  have HB2 : Hid (Below w.heap.size w w2) := Below.trans ((Below.refl _ _).alloc (Nat.le_refl _) _) (hb.mono (by simp))
  have s0 : w2.cell? ⟨w.heap.size, 0, none⟩ = some (.int .i64 v) := by rw [(bcell hb).1 _ _ (by simp)]; simp [go_sem]
  have s1 : w2.cell? ⟨w.heap.size, 1, none⟩ = some (.int .u64 (m : Int)) := by rw [(bcell hb).1 _ _ (by simp)]; simp [go_sem]
  have hz2 : w.heap.size + 1 ≤ w2.heap.size := by have := hb.size; simpa using this
  have HBK2 := Lib.hid (HBK.out.call HB2.out)
  clear hb HHM
  obtain ⟨hp, hq0, hpq, _, _, _, ⟨cap, c1, c2, s2⟩, hfz, hrows⟩ := HBK2.out
  have hpw : p < w.heap.size := HBK.out.1
  have hqw : q < w.heap.size := HBK.out.2.1
  rw [← HM.out] at c1 s2 hrows
  obtain ⟨v0, s3, hrow⟩ := hrows H hh2
  unfold maxLen at c2
  have g0 : (0 : Int) ≤ (H : Int) := Int.natCast_nonneg _
  have g1 : (H : Int) < (M : Int) := by omega
  have g2 : (H : Int) ≥ 0 := g0
  have HROW := Lib.hid hrow.row
  clear hrow hrows
  go_wp2_with fail
  refine wp_region_held_drew (S := fun w' => w'.cell? ⟨p, 3, none⟩ = some (.slice (some ⟨q, 0, none⟩) M cap) ∧ w'.cell? ⟨w.heap.size, 0, none⟩ = some (.int .i64 v) ∧ w'.cell? ⟨w.heap.size, 1, none⟩ = some (.int .u64 (m : Int))) (by kernel_rfl) ?_ (fun hHeld => ?_)
  · exact ⟨s2, s0, s1⟩
  refine wpAnyH_take (i := 0) (oi := { dst := some 13, op := Go.Op.move (Go.Operand.tmp 0), type := 98, pos := "book.go:83", after := #[], guard := none }) (v := ?_) rfl (by kernel_rfl) (by kernel_rfl) (by kernel_rfl) (fun _ _ _ h => h) (Or.inl ⟨by rfl, ?_⟩) (by assumption) ?_
  rotate_left
  · intro w hSw
    (try dsimp only at hSw)
    go_simp
    try with_reducible rfl
  (try simp only [Act.put, List.setIfInBounds_toArray, List.set_cons_zero, List.set_cons_succ])
  refine wpAnyH_take (i := 1) (oi := { dst := some 14, op := Go.Op.nilCheck (Go.Operand.tmp 13), type := 0, pos := "book.go:83", after := #[{ on := 0, ground := Go.Ground.data }], guard := none }) (v := ?_) rfl (by kernel_rfl) (by kernel_rfl) (by kernel_rfl) (fun _ _ _ h => h) (Or.inl ⟨by rfl, ?_⟩) (by assumption) ?_
  rotate_left
  · intro w hSw
    (try dsimp only at hSw)
    go_simp
    try with_reducible rfl
  (try simp only [Act.put, List.setIfInBounds_toArray, List.set_cons_zero, List.set_cons_succ])
  refine wpAnyH_take (i := 2) (oi := { dst := some 15, op := Go.Op.fieldAddr 143 (Go.Operand.tmp 14) 1, type := 0, pos := "book.go:83", after := #[{ on := 1, ground := Go.Ground.data }], guard := none }) (v := ?_) rfl (by kernel_rfl) (by kernel_rfl) (by kernel_rfl) (fun _ _ _ h => h) (Or.inl ⟨by rfl, ?_⟩) (by assumption) ?_
  rotate_left
  · intro w hSw
    (try dsimp only at hSw)
    go_simp
    try with_reducible rfl
  (try simp only [Act.put, List.setIfInBounds_toArray, List.set_cons_zero, List.set_cons_succ])
  refine wpAnyH_take (i := 3) (oi := { dst := some 16, op := Go.Op.load 60 (Go.Operand.tmp 15), type := 60, pos := "book.go:83", after := #[{ on := 2, ground := Go.Ground.data }], guard := none }) (v := ?_) rfl (by kernel_rfl) (by kernel_rfl) (by kernel_rfl) (fun _ _ _ h => h) (Or.inl ⟨by rfl, ?_⟩) (by assumption) ?_
  rotate_left
  · intro w hSw
    (try dsimp only at hSw)
    go_simp
    try with_reducible rfl
  (try simp only [Act.put, List.setIfInBounds_toArray, List.set_cons_zero, List.set_cons_succ])
  refine wpAnyH_take (i := 4) (oi := { dst := some 17, op := Go.Op.move (Go.Operand.tmp 5), type := 3, pos := "book.go:83", after := #[], guard := none }) (v := ?_) rfl (by kernel_rfl) (by kernel_rfl) (by kernel_rfl) (fun _ _ _ h => h) (Or.inl ⟨by rfl, ?_⟩) (by assumption) ?_
  rotate_left
  · intro w hSw
    (try dsimp only at hSw)
    go_simp
    try with_reducible rfl
  (try simp only [Act.put, List.setIfInBounds_toArray, List.set_cons_zero, List.set_cons_succ])
  refine wpAnyH_take (i := 5) (oi := { dst := some 18, op := Go.Op.move (Go.Operand.tmp 0), type := 98, pos := "book.go:83", after := #[], guard := none }) (v := ?_) rfl (by kernel_rfl) (by kernel_rfl) (by kernel_rfl) (fun _ _ _ h => h) (Or.inl ⟨by rfl, ?_⟩) (by assumption) ?_
  rotate_left
  · intro w hSw
    (try dsimp only at hSw)
    go_simp
    try with_reducible rfl
  (try simp only [Act.put, List.setIfInBounds_toArray, List.set_cons_zero, List.set_cons_succ])
  refine wpAnyH_take (i := 6) (oi := { dst := some 19, op := Go.Op.nilCheck (Go.Operand.tmp 18), type := 0, pos := "book.go:83", after := #[{ on := 5, ground := Go.Ground.data }], guard := none }) (v := ?_) rfl (by kernel_rfl) (by kernel_rfl) (by kernel_rfl) (fun _ _ _ h => h) (Or.inl ⟨by rfl, ?_⟩) (by assumption) ?_
  rotate_left
  · intro w hSw
    (try dsimp only at hSw)
    go_simp
    try with_reducible rfl
  (try simp only [Act.put, List.setIfInBounds_toArray, List.set_cons_zero, List.set_cons_succ])
  refine wpAnyH_take (i := 7) (oi := { dst := some 20, op := Go.Op.fieldAddr 143 (Go.Operand.tmp 19) 1, type := 0, pos := "book.go:83", after := #[{ on := 6, ground := Go.Ground.data }], guard := none }) (v := ?_) rfl (by kernel_rfl) (by kernel_rfl) (by kernel_rfl) (fun _ _ _ h => h) (Or.inl ⟨by rfl, ?_⟩) (by assumption) ?_
  rotate_left
  · intro w hSw
    (try dsimp only at hSw)
    go_simp
    try with_reducible rfl
  (try simp only [Act.put, List.setIfInBounds_toArray, List.set_cons_zero, List.set_cons_succ])
  refine wpAnyH_take (i := 8) (oi := { dst := some 21, op := Go.Op.load 60 (Go.Operand.tmp 20), type := 60, pos := "book.go:83", after := #[{ on := 7, ground := Go.Ground.data }], guard := none }) (v := ?_) rfl (by kernel_rfl) (by kernel_rfl) (by kernel_rfl) (fun _ _ _ h => h) (Or.inl ⟨by rfl, ?_⟩) (by assumption) ?_
  rotate_left
  · intro w hSw
    (try dsimp only at hSw)
    go_simp
    try with_reducible rfl
  (try simp only [Act.put, List.setIfInBounds_toArray, List.set_cons_zero, List.set_cons_succ])
  refine wpAnyH_take (i := 9) (oi := { dst := some 22, op := Go.Op.move (Go.Operand.tmp 5), type := 3, pos := "book.go:83", after := #[], guard := none }) (v := ?_) rfl (by kernel_rfl) (by kernel_rfl) (by kernel_rfl) (fun _ _ _ h => h) (Or.inl ⟨by rfl, ?_⟩) (by assumption) ?_
  rotate_left
  · intro w hSw
    (try dsimp only at hSw)
    go_simp
    try with_reducible rfl
  (try simp only [Act.put, List.setIfInBounds_toArray, List.set_cons_zero, List.set_cons_succ])
  refine wpAnyH_take (i := 10) (oi := { dst := some 23, op := Go.Op.indexAddr 60 (Go.Operand.tmp 21) (Go.Operand.tmp 22), type := 0, pos := "book.go:83", after := #[{ on := 8, ground := Go.Ground.data }, { on := 9, ground := Go.Ground.data }], guard := none }) (v := ?_) rfl (by kernel_rfl) (by kernel_rfl) (by kernel_rfl) (fun _ _ _ h => h) (Or.inl ⟨by rfl, ?_⟩) (by assumption) ?_
  rotate_left
  · intro w hSw
    (try dsimp only at hSw)
    go_simp
    try with_reducible rfl
  (try simp only [Act.put, List.setIfInBounds_toArray, List.set_cons_zero, List.set_cons_succ])
  refine wpAnyH_take (i := 12) (oi := { dst := some 25, op := Go.Op.load 47 (Go.Operand.tmp 3), type := 47, pos := "book.go:83", after := #[], guard := none }) (v := ?_) rfl (by kernel_rfl) (by kernel_rfl) (by kernel_rfl) (fun _ _ _ h => h) (Or.inl ⟨by rfl, ?_⟩) (by assumption) ?_
  rotate_left
  · intro w hSw
    (try dsimp only at hSw)
    go_simp
    try with_reducible rfl
  (try simp only [Act.put, List.setIfInBounds_toArray, List.set_cons_zero, List.set_cons_succ])
  refine wpAnyH_ready (rs := [11]) (by kernel_rfl) (by simp) ?_
  refine AllReadyH.cons (o := { dst := some 24, op := Go.Op.load 57 (Go.Operand.tmp 23), type := 57, pos := "book.go:83", after := #[{ on := 10, ground := Go.Ground.data }], guard := none }) rfl (fun K hK => ?_) AllReadyH.nil
  go_simp

  refine hK.out _ _ ?_ (fun hHeld => ?_)
  · (try dsimp only)
    exact hHeld
  clear hK K
  (try simp only [Act.put, List.setIfInBounds_toArray, List.set_cons_zero, List.set_cons_succ])
  refine wpAnyH_ready (rs := [13]) (by kernel_rfl) (by simp) ?_
  refine AllReadyH.cons (o := { dst := some 26, op := Go.Op.call { callee := Go.Callee.value (Go.Operand.func 86), args := #[Go.Operand.tmp 24, Go.Operand.tmp 25], argTypes := #[57, 47] }, type := 154, pos := "book.go:83", after := #[{ on := 11, ground := Go.Ground.data }, { on := 12, ground := Go.Ground.data }], guard := none }) rfl (fun K hK => ?_) AllReadyH.nil
  go_simp
  refine Calls.mono (HL.out _ _ (HROW.out.below (by (repeat' (first | (with_reducible exact Below.refl _ _) | (with_reducible assumption) | (with_reducible refine Below.setCell ?_ ?_ _) | (with_reducible refine Below.alloc ?_ ?_ _) | (with_reducible refine below_drewN ?_ _) | (with_reducible refine Below.drew ?_) | go_size))))) ?_
  intro e w4 hpost
  obtain ⟨va, he, hra, hb⟩ := hpost
  subst he
  have HRA := Lib.hid hra
  obtain ⟨Av, cv, hva, _⟩ := hra
  subst hva
  have hbd : Below w2.heap.size w2 w4 := ((Below.refl w2.heap.size w2).drew).trans hb
  have HBK4 := Lib.hid (HBK2.out.call hbd)
  have s4 := (hbd.cell (p := ⟨q, H, none⟩) hq0).trans s3
  have f4 : ∀ o, w4.frozen? ⟨q, o, none⟩ = false := HBK4.out.2.2.2.2.2.2.2.1
  have hz4 := hbd.size
  refine hK.out _ _ ?_ (fun hHeld => ?_)
  · (try dsimp only)
    obtain ⟨q0, q1, q2⟩ := hHeld
    exact ⟨(hb.cell (p := ⟨p, _, none⟩) (by show p < w2.heap.size; omega)).trans q0, (hb.cell (p := ⟨w.heap.size, _, none⟩) (by show w.heap.size < w2.heap.size; omega)).trans q1, (hb.cell (p := ⟨w.heap.size, _, none⟩) (by show w.heap.size < w2.heap.size; omega)).trans q2⟩
  clear hK K
  refine wpAnyH_take (i := 14) (oi := { dst := some 12, op := Go.Op.move (Go.Operand.tmp 26), type := 154, pos := "book.go:83", after := #[{ on := 13, ground := Go.Ground.data }], guard := none }) (v := ?_) rfl (by kernel_rfl) (by kernel_rfl) (by kernel_rfl) (fun _ _ _ h => h) (Or.inl ⟨by rfl, ?_⟩) (by assumption) ?_
  rotate_left
  · intro w hSw
    (try dsimp only at hSw)
    go_simp
    try with_reducible rfl
  (try simp only [Act.put, List.setIfInBounds_toArray, List.set_cons_zero, List.set_cons_succ])
  refine wpAnyH_take (i := 15) (oi := { dst := some 27, op := Go.Op.extract (Go.Operand.tmp 12) 0, type := 57, pos := "book.go:83", after := #[{ on := 14, ground := Go.Ground.data }], guard := none }) (v := ?_) rfl (by kernel_rfl) (by kernel_rfl) (by kernel_rfl) (fun _ _ _ h => h) (Or.inl ⟨by rfl, ?_⟩) (by assumption) ?_
  rotate_left
  · intro w hSw
    (try dsimp only at hSw)
    go_simp
    try with_reducible rfl
  (try simp only [Act.put, List.setIfInBounds_toArray, List.set_cons_zero, List.set_cons_succ])
  refine wpAnyH_take (i := 16) (oi := { dst := some 28, op := Go.Op.extract (Go.Operand.tmp 12) 1, type := 4, pos := "book.go:83", after := #[{ on := 14, ground := Go.Ground.data }, { on := 18, ground := Go.Ground.gcOnly Go.Departure.lateStores }], guard := none }) (v := ?_) rfl (by kernel_rfl) (by kernel_rfl) (by kernel_rfl) (fun _ _ _ h => h) (Or.inl ⟨by rfl, ?_⟩) (by assumption) ?_
  rotate_left
  · intro w hSw
    (try dsimp only at hSw)
    go_simp
    try with_reducible rfl
  (try simp only [Act.put, List.setIfInBounds_toArray, List.set_cons_zero, List.set_cons_succ])
  refine wpAnyH_take (i := 17) (oi := { dst := some 29, op := Go.Op.indexAddr 60 (Go.Operand.tmp 16) (Go.Operand.tmp 17), type := 0, pos := "book.go:83", after := #[{ on := 3, ground := Go.Ground.data }, { on := 4, ground := Go.Ground.data }, { on := 0, ground := Go.Ground.phase }, { on := 1, ground := Go.Ground.phase }, { on := 2, ground := Go.Ground.phase }, { on := 3, ground := Go.Ground.phase }, { on := 4, ground := Go.Ground.phase }, { on := 5, ground := Go.Ground.phase }, { on := 6, ground := Go.Ground.phase }, { on := 7, ground := Go.Ground.phase }, { on := 8, ground := Go.Ground.phase }, { on := 9, ground := Go.Ground.phase }, { on := 10, ground := Go.Ground.phase }, { on := 11, ground := Go.Ground.phase }, { on := 12, ground := Go.Ground.phase }, { on := 13, ground := Go.Ground.phase }, { on := 14, ground := Go.Ground.phase }, { on := 15, ground := Go.Ground.phase }, { on := 16, ground := Go.Ground.textOnly Go.Departure.lateStores }], guard := none }) (v := ?_) rfl (by kernel_rfl) (by kernel_rfl) (by kernel_rfl) (fun _ _ _ h => h) (Or.inl ⟨by rfl, ?_⟩) (by assumption) ?_
  rotate_left
  · intro w hSw
    (try dsimp only at hSw)
    go_simp
    try with_reducible rfl
  (try simp only [Act.put, List.setIfInBounds_toArray, List.set_cons_zero, List.set_cons_succ])
  refine wpAnyH_ready (rs := [18]) (by kernel_rfl) (by simp) ?_
  refine AllReadyH.cons (o := { dst := none, op := Go.Op.store 57 (Go.Operand.tmp 29) (Go.Operand.tmp 27), type := 0, pos := "book.go:83", after := #[{ on := 17, ground := Go.Ground.data }, { on := 15, ground := Go.Ground.data }, { on := 13, ground := Go.Ground.chain }, { on := 0, ground := Go.Ground.phase }, { on := 1, ground := Go.Ground.phase }, { on := 2, ground := Go.Ground.phase }, { on := 3, ground := Go.Ground.phase }, { on := 4, ground := Go.Ground.phase }, { on := 5, ground := Go.Ground.phase }, { on := 6, ground := Go.Ground.phase }, { on := 7, ground := Go.Ground.phase }, { on := 8, ground := Go.Ground.phase }, { on := 9, ground := Go.Ground.phase }, { on := 10, ground := Go.Ground.phase }, { on := 11, ground := Go.Ground.phase }, { on := 12, ground := Go.Ground.phase }, { on := 13, ground := Go.Ground.phase }, { on := 14, ground := Go.Ground.phase }, { on := 15, ground := Go.Ground.phase }, { on := 16, ground := Go.Ground.textOnly Go.Departure.lateStores }], guard := none }) rfl (fun K hK => ?_) AllReadyH.nil
  go_simp

  refine hK.out _ _ ?_ (fun hHeld => ?_)
  · (try dsimp only)
    obtain ⟨q0, q1, q2⟩ := hHeld
    exact ⟨((But.set H _).cell (show p < w4.heap.size by omega) (show p ≠ q by omega)).trans q0, ((But.set H _).cell (show w.heap.size < w4.heap.size by omega) (show w.heap.size ≠ q by omega)).trans q1, ((But.set H _).cell (show w.heap.size < w4.heap.size by omega) (show w.heap.size ≠ q by omega)).trans q2⟩
  clear hK K
  (try simp only [Act.put, List.setIfInBounds_toArray, List.set_cons_zero, List.set_cons_succ])
  refine wpAnyH_take (i := 19) (oi := { dst := some 6, op := Go.Op.assign (Go.Operand.tmp 28), type := 4, pos := "book.go:83", after := #[{ on := 16, ground := Go.Ground.data }, { on := 18, ground := Go.Ground.chain }, { on := 0, ground := Go.Ground.phase }, { on := 1, ground := Go.Ground.phase }, { on := 2, ground := Go.Ground.phase }, { on := 3, ground := Go.Ground.phase }, { on := 4, ground := Go.Ground.phase }, { on := 5, ground := Go.Ground.phase }, { on := 6, ground := Go.Ground.phase }, { on := 7, ground := Go.Ground.phase }, { on := 8, ground := Go.Ground.phase }, { on := 9, ground := Go.Ground.phase }, { on := 10, ground := Go.Ground.phase }, { on := 11, ground := Go.Ground.phase }, { on := 12, ground := Go.Ground.phase }, { on := 13, ground := Go.Ground.phase }, { on := 14, ground := Go.Ground.phase }, { on := 15, ground := Go.Ground.phase }, { on := 16, ground := Go.Ground.phase }, { on := 17, ground := Go.Ground.phase }, { on := 18, ground := Go.Ground.phase }], guard := none }) (v := ?_) rfl (by kernel_rfl) (by kernel_rfl) (by kernel_rfl) (fun _ _ _ h => h) (Or.inl ⟨by rfl, ?_⟩) (by assumption) ?_
  rotate_left
  · intro w hSw
    (try dsimp only at hSw)
    go_simp
    try with_reducible rfl
  (try simp only [Act.put, List.setIfInBounds_toArray, List.set_cons_zero, List.set_cons_succ])
  refine wpAnyH_done (by kernel_rfl) ?_ _
  go_wp2
  go_ret
  refine ⟨by first | rfl | (simp; done), ?_, ?_⟩
  · exact HBK4.out.put (by rw [← HM.out]; exact hh2) (PlRowD.of_own HRA.out fun b hb => by have := HD.out b hb; show b < w2.heap.size; omega) hq
  · exact ((But.of HB2.out (by omega)).trans (But.of hbd (by omega))).trans (But.set H _)
def ageR (g : Nat → Nat → Pl) (H now lim : Nat) : Nat → Pl := sweepF (fun i => ownP (g H i)) (oldE now lim)
def ageC (g : Nat → Nat → Pl) (H now lim n : Nat) : Nat := goneF (fun i => ownP (g H i)) (oldE now lim) n
set_option maxRecDepth 20000 in
set_option maxHeartbeats 6400000 in
theorem book_Age {w : World} {D : Nat → Prop} {p q S B n : Nat} {g : Nat → Nat → Pl} (h : BkAt w D p q S B n g) (hD : ∀ b, D b → b < w.heap.size) (hq : D q) (hS : 1 ≤ S ∧ S ≤ 8) (hB : 1 ≤ B ∧ B ≤ 16) (hn : n ≤ 1000000) (hst : ∀ i, i < S * B → ∀ j, j < n → (g i j).e.stamp < 4294967296)
    (s t : Int) (now lim : Nat) (hnow : now < 4294967296) (H : Nat) (hh2 : H < S * B) (ha : atI S B s t = (H : Int)) :
    Calls Try.prog 51 #[.pointer (some ⟨p, 0, none⟩), .int .i64 s, .int .i64 t, .int .u32 (now : Int), .int .u32 (lim : Int)] w fun e w' =>
      e = .returned (.int .i64 (ageC g H now lim n : Nat)) ∧ BkAt w' D p q S B n (updR g H (ageR g H now lim)) ∧ But q w w' := by
  obtain ⟨M, hM⟩ : ∃ M, M = S * B := ⟨_, rfl⟩
  rw [← hM] at hh2
  have hMB : M ≤ 128 := by rw [hM]; exact Nat.mul_le_mul hS.2 hB.2
  have hhm := fun w' (hb : Below w.heap.size w w') => book_at ((SizeOf.of h).call hb) (by omega) (by omega) (by omega) s t
  rw [ha] at hhm
  have HHM := Lib.hid hhm
  have HBK := Lib.hid h
  have HM := Lib.hid hM
  have HL := Lib.hid fun w u (hr : PlRow w w.heap.size u n (g H)) => bucket_Age hn hr (Nat.le_refl _) now lim hnow (hst H (by rw [← HM.out]; exact hh2))
  change Hid (∀ w u (hr : PlRow w w.heap.size u n (g H)), Calls Try.prog 88 #[u, .int .u32 (now : Int), .int .u32 (lim : Int)] w (Gives 153 n (ageR g H now lim) (fun u => .tuple #[u, .int .i64 (ageC g H now lim n : Nat)]) w)) at HL
  generalize ageR g H now lim = r1 at *
  generalize ageC g H now lim n = r2 at *
  have HD := Lib.hid hD
  clear hst hn hnow hM hD h ha hhm
  go_enter Try.func51, Try.ntmps51
  go_wp2_with fail
  refine (HHM.out _ (Below.refl _ _)).mono ?_
  rintro e w2 ⟨rfl, hb⟩
  have HB2 : Hid (Below w.heap.size w w2) := hb
  have hz2 : w.heap.size ≤ w2.heap.size := hb.size
  have HBK2 := Lib.hid (HBK.out.call HB2.out)
  clear hb HHM
  obtain ⟨hp, hq0, hpq, _, _, _, ⟨cap, c1, c2, s2⟩, hfz, hrows⟩ := HBK2.out
  have hpw : p < w.heap.size := HBK.out.1
  have hqw : q < w.heap.size := HBK.out.2.1
  rw [← HM.out] at c1 s2 hrows
  obtain ⟨v0, s3, hrow⟩ := hrows H hh2
  unfold maxLen at c2
  have g0 : (0 : Int) ≤ (H : Int) := Int.natCast_nonneg _
  have g1 : (H : Int) < (M : Int) := by omega
  have g2 : (H : Int) ≥ 0 := g0
  have HROW := Lib.hid hrow.row
  clear hrow hrows
  go_wp2_with fail
  refine wp_region_held_drew (S := fun w' => w'.cell? ⟨p, 3, none⟩ = some (.slice (some ⟨q, 0, none⟩) M cap)) (by kernel_rfl) ?_ (fun hHeld => ?_)
  · exact s2
  refine wpAnyH_take (i := 0) (oi := { dst := some 20, op := Go.Op.move (Go.Operand.tmp 0), type := 98, pos := "book.go:91", after := #[], guard := none }) (v := ?_) rfl (by kernel_rfl) (by kernel_rfl) (by kernel_rfl) (fun _ _ _ h => h) (Or.inl ⟨by rfl, ?_⟩) (by assumption) ?_
  rotate_left
  · intro w hSw
    (try dsimp only at hSw)
    go_simp
    try with_reducible rfl
  (try simp only [Act.put, List.setIfInBounds_toArray, List.set_cons_zero, List.set_cons_succ])
  refine wpAnyH_take (i := 1) (oi := { dst := some 21, op := Go.Op.nilCheck (Go.Operand.tmp 20), type := 0, pos := "book.go:91", after := #[{ on := 0, ground := Go.Ground.data }], guard := none }) (v := ?_) rfl (by kernel_rfl) (by kernel_rfl) (by kernel_rfl) (fun _ _ _ h => h) (Or.inl ⟨by rfl, ?_⟩) (by assumption) ?_
  rotate_left
  · intro w hSw
    (try dsimp only at hSw)
    go_simp
    try with_reducible rfl
  (try simp only [Act.put, List.setIfInBounds_toArray, List.set_cons_zero, List.set_cons_succ])
  refine wpAnyH_take (i := 2) (oi := { dst := some 22, op := Go.Op.fieldAddr 143 (Go.Operand.tmp 21) 1, type := 0, pos := "book.go:91", after := #[{ on := 1, ground := Go.Ground.data }], guard := none }) (v := ?_) rfl (by kernel_rfl) (by kernel_rfl) (by kernel_rfl) (fun _ _ _ h => h) (Or.inl ⟨by rfl, ?_⟩) (by assumption) ?_
  rotate_left
  · intro w hSw
    (try dsimp only at hSw)
    go_simp
    try with_reducible rfl
  (try simp only [Act.put, List.setIfInBounds_toArray, List.set_cons_zero, List.set_cons_succ])
  refine wpAnyH_take (i := 3) (oi := { dst := some 23, op := Go.Op.load 60 (Go.Operand.tmp 22), type := 60, pos := "book.go:91", after := #[{ on := 2, ground := Go.Ground.data }], guard := none }) (v := ?_) rfl (by kernel_rfl) (by kernel_rfl) (by kernel_rfl) (fun _ _ _ h => h) (Or.inl ⟨by rfl, ?_⟩) (by assumption) ?_
  rotate_left
  · intro w hSw
    (try dsimp only at hSw)
    go_simp
    try with_reducible rfl
  (try simp only [Act.put, List.setIfInBounds_toArray, List.set_cons_zero, List.set_cons_succ])
  refine wpAnyH_take (i := 4) (oi := { dst := some 24, op := Go.Op.move (Go.Operand.tmp 11), type := 3, pos := "book.go:91", after := #[], guard := none }) (v := ?_) rfl (by kernel_rfl) (by kernel_rfl) (by kernel_rfl) (fun _ _ _ h => h) (Or.inl ⟨by rfl, ?_⟩) (by assumption) ?_
  rotate_left
  · intro w hSw
    (try dsimp only at hSw)
    go_simp
    try with_reducible rfl
  (try simp only [Act.put, List.setIfInBounds_toArray, List.set_cons_zero, List.set_cons_succ])
  refine wpAnyH_take (i := 5) (oi := { dst := some 25, op := Go.Op.move (Go.Operand.tmp 0), type := 98, pos := "book.go:91", after := #[], guard := none }) (v := ?_) rfl (by kernel_rfl) (by kernel_rfl) (by kernel_rfl) (fun _ _ _ h => h) (Or.inl ⟨by rfl, ?_⟩) (by assumption) ?_
  rotate_left
  · intro w hSw
    (try dsimp only at hSw)
    go_simp
    try with_reducible rfl
  (try simp only [Act.put, List.setIfInBounds_toArray, List.set_cons_zero, List.set_cons_succ])
  refine wpAnyH_take (i := 6) (oi := { dst := some 26, op := Go.Op.nilCheck (Go.Operand.tmp 25), type := 0, pos := "book.go:91", after := #[{ on := 5, ground := Go.Ground.data }], guard := none }) (v := ?_) rfl (by kernel_rfl) (by kernel_rfl) (by kernel_rfl) (fun _ _ _ h => h) (Or.inl ⟨by rfl, ?_⟩) (by assumption) ?_
  rotate_left
  · intro w hSw
    (try dsimp only at hSw)
    go_simp
    try with_reducible rfl
  (try simp only [Act.put, List.setIfInBounds_toArray, List.set_cons_zero, List.set_cons_succ])
  refine wpAnyH_take (i := 7) (oi := { dst := some 27, op := Go.Op.fieldAddr 143 (Go.Operand.tmp 26) 1, type := 0, pos := "book.go:91", after := #[{ on := 6, ground := Go.Ground.data }], guard := none }) (v := ?_) rfl (by kernel_rfl) (by kernel_rfl) (by kernel_rfl) (fun _ _ _ h => h) (Or.inl ⟨by rfl, ?_⟩) (by assumption) ?_
  rotate_left
  · intro w hSw
    (try dsimp only at hSw)
    go_simp
    try with_reducible rfl
  (try simp only [Act.put, List.setIfInBounds_toArray, List.set_cons_zero, List.set_cons_succ])
  refine wpAnyH_take (i := 8) (oi := { dst := some 28, op := Go.Op.load 60 (Go.Operand.tmp 27), type := 60, pos := "book.go:91", after := #[{ on := 7, ground := Go.Ground.data }], guard := none }) (v := ?_) rfl (by kernel_rfl) (by kernel_rfl) (by kernel_rfl) (fun _ _ _ h => h) (Or.inl ⟨by rfl, ?_⟩) (by assumption) ?_
  rotate_left
  · intro w hSw
    (try dsimp only at hSw)
    go_simp
    try with_reducible rfl
  (try simp only [Act.put, List.setIfInBounds_toArray, List.set_cons_zero, List.set_cons_succ])
  refine wpAnyH_take (i := 9) (oi := { dst := some 29, op := Go.Op.move (Go.Operand.tmp 11), type := 3, pos := "book.go:91", after := #[], guard := none }) (v := ?_) rfl (by kernel_rfl) (by kernel_rfl) (by kernel_rfl) (fun _ _ _ h => h) (Or.inl ⟨by rfl, ?_⟩) (by assumption) ?_
  rotate_left
  · intro w hSw
    (try dsimp only at hSw)
    go_simp
    try with_reducible rfl
  (try simp only [Act.put, List.setIfInBounds_toArray, List.set_cons_zero, List.set_cons_succ])
  refine wpAnyH_take (i := 10) (oi := { dst := some 30, op := Go.Op.indexAddr 60 (Go.Operand.tmp 28) (Go.Operand.tmp 29), type := 0, pos := "book.go:91", after := #[{ on := 8, ground := Go.Ground.data }, { on := 9, ground := Go.Ground.data }], guard := none }) (v := ?_) rfl (by kernel_rfl) (by kernel_rfl) (by kernel_rfl) (fun _ _ _ h => h) (Or.inl ⟨by rfl, ?_⟩) (by assumption) ?_
  rotate_left
  · intro w hSw
    (try dsimp only at hSw)
    go_simp
    try with_reducible rfl
  (try simp only [Act.put, List.setIfInBounds_toArray, List.set_cons_zero, List.set_cons_succ])
  refine wpAnyH_take (i := 12) (oi := { dst := some 32, op := Go.Op.move (Go.Operand.tmp 3), type := 26, pos := "book.go:91", after := #[], guard := none }) (v := ?_) rfl (by kernel_rfl) (by kernel_rfl) (by kernel_rfl) (fun _ _ _ h => h) (Or.inl ⟨by rfl, ?_⟩) (by assumption) ?_
  rotate_left
  · intro w hSw
    (try dsimp only at hSw)
    go_simp
    try with_reducible rfl
  (try simp only [Act.put, List.setIfInBounds_toArray, List.set_cons_zero, List.set_cons_succ])
  refine wpAnyH_take (i := 13) (oi := { dst := some 33, op := Go.Op.move (Go.Operand.tmp 4), type := 26, pos := "book.go:91", after := #[], guard := none }) (v := ?_) rfl (by kernel_rfl) (by kernel_rfl) (by kernel_rfl) (fun _ _ _ h => h) (Or.inl ⟨by rfl, ?_⟩) (by assumption) ?_
  rotate_left
  · intro w hSw
    (try dsimp only at hSw)
    go_simp
    try with_reducible rfl
  (try simp only [Act.put, List.setIfInBounds_toArray, List.set_cons_zero, List.set_cons_succ])
  refine wpAnyH_ready (rs := [11]) (by kernel_rfl) (by simp) ?_
  refine AllReadyH.cons (o := { dst := some 31, op := Go.Op.load 57 (Go.Operand.tmp 30), type := 57, pos := "book.go:91", after := #[{ on := 10, ground := Go.Ground.data }], guard := none }) rfl (fun K hK => ?_) AllReadyH.nil
  go_simp

  refine hK.out _ _ ?_ (fun hHeld => ?_)
  · (try dsimp only)
    exact hHeld
  clear hK K
  (try simp only [Act.put, List.setIfInBounds_toArray, List.set_cons_zero, List.set_cons_succ])
  refine wpAnyH_ready (rs := [14]) (by kernel_rfl) (by simp) ?_
  refine AllReadyH.cons (o := { dst := some 34, op := Go.Op.call { callee := Go.Callee.value (Go.Operand.func 88), args := #[Go.Operand.tmp 31, Go.Operand.tmp 32, Go.Operand.tmp 33], argTypes := #[57, 26, 26] }, type := 147, pos := "book.go:91", after := #[{ on := 11, ground := Go.Ground.data }, { on := 12, ground := Go.Ground.data }, { on := 13, ground := Go.Ground.data }], guard := none }) rfl (fun K hK => ?_) AllReadyH.nil
  go_simp
  refine Calls.mono (HL.out _ _ (HROW.out.below (by (repeat' (first | (with_reducible exact Below.refl _ _) | (with_reducible assumption) | (with_reducible refine Below.setCell ?_ ?_ _) | (with_reducible refine Below.alloc ?_ ?_ _) | (with_reducible refine below_drewN ?_ _) | (with_reducible refine Below.drew ?_) | go_size))))) ?_
  intro e w4 hpost
  obtain ⟨va, he, hra, hb⟩ := hpost
  subst he
  have HRA := Lib.hid hra
  obtain ⟨Av, cv, hva, _⟩ := hra
  subst hva
  have hbd : Below w2.heap.size w2 w4 := ((Below.refl w2.heap.size w2).drew).trans hb
  have HBK4 := Lib.hid (HBK2.out.call hbd)
  have s4 := (hbd.cell (p := ⟨q, H, none⟩) hq0).trans s3
  have f4 : ∀ o, w4.frozen? ⟨q, o, none⟩ = false := HBK4.out.2.2.2.2.2.2.2.1
  have hz4 := hbd.size
  refine hK.out _ _ ?_ (fun hHeld => ?_)
  · (try dsimp only)
    exact (hb.cell (p := ⟨p, _, none⟩) (by show p < w2.heap.size; omega)).trans hHeld
  clear hK K
  refine wpAnyH_take (i := 15) (oi := { dst := some 19, op := Go.Op.move (Go.Operand.tmp 34), type := 147, pos := "book.go:91", after := #[{ on := 14, ground := Go.Ground.data }], guard := none }) (v := ?_) rfl (by kernel_rfl) (by kernel_rfl) (by kernel_rfl) (fun _ _ _ h => h) (Or.inl ⟨by rfl, ?_⟩) (by assumption) ?_
  rotate_left
  · intro w hSw
    (try dsimp only at hSw)
    go_simp
    try with_reducible rfl
  (try simp only [Act.put, List.setIfInBounds_toArray, List.set_cons_zero, List.set_cons_succ])
  refine wpAnyH_take (i := 16) (oi := { dst := some 35, op := Go.Op.extract (Go.Operand.tmp 19) 0, type := 57, pos := "book.go:91", after := #[{ on := 15, ground := Go.Ground.data }], guard := none }) (v := ?_) rfl (by kernel_rfl) (by kernel_rfl) (by kernel_rfl) (fun _ _ _ h => h) (Or.inl ⟨by rfl, ?_⟩) (by assumption) ?_
  rotate_left
  · intro w hSw
    (try dsimp only at hSw)
    go_simp
    try with_reducible rfl
  (try simp only [Act.put, List.setIfInBounds_toArray, List.set_cons_zero, List.set_cons_succ])
  refine wpAnyH_take (i := 17) (oi := { dst := some 36, op := Go.Op.extract (Go.Operand.tmp 19) 1, type := 3, pos := "book.go:91", after := #[{ on := 15, ground := Go.Ground.data }, { on := 19, ground := Go.Ground.gcOnly Go.Departure.lateStores }], guard := none }) (v := ?_) rfl (by kernel_rfl) (by kernel_rfl) (by kernel_rfl) (fun _ _ _ h => h) (Or.inl ⟨by rfl, ?_⟩) (by assumption) ?_
  rotate_left
  · intro w hSw
    (try dsimp only at hSw)
    go_simp
    try with_reducible rfl
  (try simp only [Act.put, List.setIfInBounds_toArray, List.set_cons_zero, List.set_cons_succ])
  refine wpAnyH_take (i := 18) (oi := { dst := some 37, op := Go.Op.indexAddr 60 (Go.Operand.tmp 23) (Go.Operand.tmp 24), type := 0, pos := "book.go:91", after := #[{ on := 3, ground := Go.Ground.data }, { on := 4, ground := Go.Ground.data }, { on := 0, ground := Go.Ground.phase }, { on := 1, ground := Go.Ground.phase }, { on := 2, ground := Go.Ground.phase }, { on := 3, ground := Go.Ground.phase }, { on := 4, ground := Go.Ground.phase }, { on := 5, ground := Go.Ground.phase }, { on := 6, ground := Go.Ground.phase }, { on := 7, ground := Go.Ground.phase }, { on := 8, ground := Go.Ground.phase }, { on := 9, ground := Go.Ground.phase }, { on := 10, ground := Go.Ground.phase }, { on := 11, ground := Go.Ground.phase }, { on := 12, ground := Go.Ground.phase }, { on := 13, ground := Go.Ground.phase }, { on := 14, ground := Go.Ground.phase }, { on := 15, ground := Go.Ground.phase }, { on := 16, ground := Go.Ground.phase }, { on := 17, ground := Go.Ground.textOnly Go.Departure.lateStores }], guard := none }) (v := ?_) rfl (by kernel_rfl) (by kernel_rfl) (by kernel_rfl) (fun _ _ _ h => h) (Or.inl ⟨by rfl, ?_⟩) (by assumption) ?_
  rotate_left
  · intro w hSw
    (try dsimp only at hSw)
    go_simp
    try with_reducible rfl
  (try simp only [Act.put, List.setIfInBounds_toArray, List.set_cons_zero, List.set_cons_succ])
  refine wpAnyH_ready (rs := [19]) (by kernel_rfl) (by simp) ?_
  refine AllReadyH.cons (o := { dst := none, op := Go.Op.store 57 (Go.Operand.tmp 37) (Go.Operand.tmp 35), type := 0, pos := "book.go:91", after := #[{ on := 18, ground := Go.Ground.data }, { on := 16, ground := Go.Ground.data }, { on := 14, ground := Go.Ground.chain }, { on := 0, ground := Go.Ground.phase }, { on := 1, ground := Go.Ground.phase }, { on := 2, ground := Go.Ground.phase }, { on := 3, ground := Go.Ground.phase }, { on := 4, ground := Go.Ground.phase }, { on := 5, ground := Go.Ground.phase }, { on := 6, ground := Go.Ground.phase }, { on := 7, ground := Go.Ground.phase }, { on := 8, ground := Go.Ground.phase }, { on := 9, ground := Go.Ground.phase }, { on := 10, ground := Go.Ground.phase }, { on := 11, ground := Go.Ground.phase }, { on := 12, ground := Go.Ground.phase }, { on := 13, ground := Go.Ground.phase }, { on := 14, ground := Go.Ground.phase }, { on := 15, ground := Go.Ground.phase }, { on := 16, ground := Go.Ground.phase }, { on := 17, ground := Go.Ground.textOnly Go.Departure.lateStores }], guard := none }) rfl (fun K hK => ?_) AllReadyH.nil
  go_simp

  refine hK.out _ _ ?_ (fun hHeld => ?_)
  · (try dsimp only)
    exact ((But.set H _).cell (show p < w4.heap.size by omega) (show p ≠ q by omega)).trans hHeld
  clear hK K
  (try simp only [Act.put, List.setIfInBounds_toArray, List.set_cons_zero, List.set_cons_succ])
  refine wpAnyH_take (i := 20) (oi := { dst := some 12, op := Go.Op.assign (Go.Operand.tmp 36), type := 3, pos := "book.go:91", after := #[{ on := 17, ground := Go.Ground.data }, { on := 19, ground := Go.Ground.chain }, { on := 0, ground := Go.Ground.phase }, { on := 1, ground := Go.Ground.phase }, { on := 2, ground := Go.Ground.phase }, { on := 3, ground := Go.Ground.phase }, { on := 4, ground := Go.Ground.phase }, { on := 5, ground := Go.Ground.phase }, { on := 6, ground := Go.Ground.phase }, { on := 7, ground := Go.Ground.phase }, { on := 8, ground := Go.Ground.phase }, { on := 9, ground := Go.Ground.phase }, { on := 10, ground := Go.Ground.phase }, { on := 11, ground := Go.Ground.phase }, { on := 12, ground := Go.Ground.phase }, { on := 13, ground := Go.Ground.phase }, { on := 14, ground := Go.Ground.phase }, { on := 15, ground := Go.Ground.phase }, { on := 16, ground := Go.Ground.phase }, { on := 17, ground := Go.Ground.phase }, { on := 18, ground := Go.Ground.phase }, { on := 19, ground := Go.Ground.phase }], guard := none }) (v := ?_) rfl (by kernel_rfl) (by kernel_rfl) (by kernel_rfl) (fun _ _ _ h => h) (Or.inl ⟨by rfl, ?_⟩) (by assumption) ?_
  rotate_left
  · intro w hSw
    (try dsimp only at hSw)
    go_simp
    try with_reducible rfl
  (try simp only [Act.put, List.setIfInBounds_toArray, List.set_cons_zero, List.set_cons_succ])
  refine wpAnyH_done (by kernel_rfl) ?_ _
  go_wp2
  go_ret
  refine ⟨by first | rfl | (simp; done), ?_, ?_⟩
  · exact HBK4.out.put (by rw [← HM.out]; exact hh2) (PlRowD.of_own HRA.out fun b hb => by have := HD.out b hb; show b < w2.heap.size; omega) hq
  · exact ((But.of HB2.out (by omega)).trans (But.of hbd (by omega))).trans (But.set H _)
set_option maxHeartbeats 1600000 in
theorem book_AgeNo {w : World} {D : Nat → Prop} {p q S B n : Nat} {g : Nat → Nat → Pl} (h : BkAt w D p q S B n g) (hS : 1 ≤ S ∧ S ≤ 8) (hB : 1 ≤ B ∧ B ≤ 16)
    (s t : Int) (now lim : Int) (ha : atI S B s t = -1) :
    Calls Try.prog 51 #[.pointer (some ⟨p, 0, none⟩), .int .i64 s, .int .i64 t, .int .u32 now, .int .u32 lim] w (Says (.int .i64 0) w) := by
  have hMB : S * B ≤ 128 := Nat.mul_le_mul hS.2 hB.2
  have hhm := fun w' (hb : Below w.heap.size w w') => book_at ((SizeOf.of h).call hb) (by omega) (by omega) (by omega) s t
  rw [ha] at hhm
  have HHM := Lib.hid hhm
  clear hhm ha h hMB
  go_enter Try.func51, Try.ntmps51
  go_wp2_with fail
  refine (HHM.out _ (Below.refl _ _)).mono ?_
  rintro e w2 ⟨rfl, hb⟩
  have HB2 : Hid (Below w.heap.size w w2) := hb
  clear hb
  go_wp2
  go_ret
  exact ⟨rfl, HB2.out⟩
end
section
open Go.RowKit

def flR (a b : Int) (f : Nat → Pl) : Nat → Pl := sweepF (fun i => ownP (f i)) (hitE a b)
def flN (a b : Int) (f : Nat → Pl) (n : Nat) : Nat := goneF (fun i => ownP (f i)) (hitE a b) n
def flC (a b : Int) (g : Nat → Nat → Pl) (n : Nat) : Nat → Nat
  | 0 => 0
  | k + 1 => flC a b g n k + flN a b (g k) n
def flG (a b : Int) (g : Nat → Nat → Pl) (k j : Nat) : Nat → Pl := if j < k then flR a b (g j) else g j
theorem flC_le (a b : Int) (g : Nat → Nat → Pl) (n : Nat) : ∀ k, flC a b g n k ≤ k * n
  | 0 => by simp [flC]
  | k + 1 => by
    have h1 := flC_le a b g n k
    have h2 : flN a b (g k) n ≤ n := goneF_le _ _ n
    rw [flC, Nat.add_mul]
    omega
theorem BkAt.congr {w : World} {D : Nat → Prop} {p q S B n : Nat} {g g' : Nat → Nat → Pl} (h : BkAt w D p q S B n g) (hg : ∀ i, i < S * B → g i = g' i) : BkAt w D p q S B n g' := by
  obtain ⟨h0, h1, h2, h3, h4, h5, h6, h9, h10⟩ := h
  refine ⟨h0, h1, h2, h3, h4, h5, h6, h9, fun i hi => ?_⟩
  obtain ⟨v, hv, hr⟩ := h10 i hi
  exact ⟨v, hv, by rw [← hg i hi]; exact hr⟩
theorem add_in {c d : Nat} (h : c + d ≤ 1024) : wrap64 ((c : Int) + (d : Int)) = ((c + d : Nat) : Int) ∧ IntKind.i64.wrap ((c : Int) + (d : Int)) = ((c + d : Nat) : Int) := by
  have e : (c : Int) + (d : Int) = ((c + d : Nat) : Int) := by simp
  rw [e]
  exact ⟨IntWalk.wrap64_in _ (by omega), IntWalk.i64_in _ (by omega)⟩
set_option maxRecDepth 20000 in
set_option maxHeartbeats 6400000 in
theorem book_Flush {w : World} {D : Nat → Prop} {p q S B n : Nat} {g : Nat → Nat → Pl} (h : BkAt w D p q S B n g) (hD : ∀ b, D b → b < w.heap.size) (hq : D q) (hS : 1 ≤ S ∧ S ≤ 8) (hB : 1 ≤ B ∧ B ≤ 16) (hn : n ≤ 8) (a b : Int) :
    Calls Try.prog 52 #[.pointer (some ⟨p, 0, none⟩), .agg #[.int .i64 a, .int .i64 b]] w fun e w' =>
      e = .returned (.int .i64 (flC a b g n (S * B) : Nat)) ∧ BkAt w' D p q S B n (flG a b g (S * B)) ∧ But q w w' := by
  obtain ⟨M, hM⟩ : ∃ M, M = S * B := ⟨_, rfl⟩
  have hMB : M ≤ 128 := by rw [hM]; exact Nat.mul_le_mul hS.2 hB.2
  have HF := Lib.hid fun f w u (hr : PlRow w w.heap.size u n f) => bucket_Flush (show n ≤ 1000000 by omega) hr (Nat.le_refl _) a b
  change Hid (∀ f w u (hr : PlRow w w.heap.size u n f), Calls Try.prog 89 #[u, .agg #[.int .i64 a, .int .i64 b]] w (Gives 153 n (flR a b f) (fun u => .tuple #[u, .int .i64 (flN a b f n : Nat)]) w)) at HF
  have HBK := Lib.hid h
  have HM := Lib.hid hM
  have HD := Lib.hid hD
  have HLE := Lib.hid fun k => flC_le a b g n k
  obtain ⟨hp, hq0, hpq, _, _, _, ⟨cap, c1, c2, s2⟩, _, _⟩ := h
  rw [← hM] at c1 s2
  unfold maxLen at c2
  have k3 : ∀ o, (w.alloc o).cell? ⟨p, 3, none⟩ = some (.slice (some ⟨q, 0, none⟩) M cap) := fun o => (World.cell?_alloc_lt _ _ _ (by show p < _; omega)).trans s2
  rw [← hM]
  have HK3 := Lib.hid k3
  clear hM hD s2
  go_enter Try.func52, Try.ntmps52
  go_wp2
  clear k3
  go_loopw [5, 17] (fun gone i wr => ∃ k : Nat, k ≤ M ∧ i = .int .i64 k ∧ gone = .int .i64 (flC a b g n k : Nat) ∧ Hid (BkAt wr D p q S B n (flG a b g k)) ∧ Hid (But q w wr) ∧ Hid (wr.cell? ⟨w.heap.size, 0, none⟩ = some (.int .i64 a) ∧ wr.cell? ⟨w.heap.size, 1, none⟩ = some (.int .i64 b) ∧ wr.cell? ⟨p, 3, none⟩ = some (.slice (some ⟨q, 0, none⟩) M cap) ∧ w.heap.size < wr.heap.size)) (fun _ i _ => M - (intOf i).toNat)
  case atStart => exact ⟨0, by omega, rfl, rfl, (HBK.out.call ((Below.refl _ _).alloc (Nat.le_refl _) _)).congr fun i _ => by unfold flG; rw [if_neg (by omega)], But.of ((Below.refl _ _).alloc (Nat.le_refl _) _) (by omega), by simp [go_sem], by simp [go_sem], HK3.out _, by simp⟩
  case round =>
    obtain ⟨k, hk, rfl, rfl, HBW, HBT, HX⟩ := hrel
    obtain ⟨x0, x1, x3, xz⟩ := HX.out
    by_cases hlt : k < M
    · have g0 : (0 : Int) ≤ (k : Int) := Int.natCast_nonneg _
      have g1 : (k : Int) < (M : Int) := by omega
      obtain ⟨hp', hq', _, _, _, _, _, hfz, hrows⟩ := HBW.out
      obtain ⟨v0, s3, hrow⟩ := hrows k (by rw [← HM.out]; exact hlt)
      have hgk : flG a b g k k = g k := by unfold flG; rw [if_neg (by omega)]
      rw [hgk] at hrow
      have hle := HLE.out k
      have hle2 := HLE.out (k + 1)
      have hkn : (k + 1) * n ≤ 1024 := by
        have : (k + 1) * n ≤ 128 * 8 := Nat.mul_le_mul (by omega) hn
        omega
      have hc1 : flC a b g n (k + 1) = flC a b g n k + flN a b (g k) n := rfl
      have HROW := Lib.hid hrow.row
      have HNXG : Hid (∀ i, updR (flG a b g k) k (flR a b (g k)) i = flG a b g (k + 1) i) := fun i => by
        unfold updR flG
        by_cases h1 : i = k
        · subst h1; rw [if_pos rfl, if_pos (by omega)]
        · rw [if_neg h1]
          by_cases h2 : i < k
          · rw [if_pos h2, if_pos (by omega)]
          · rw [if_neg h2, if_neg (by omega)]
      have HFK := Lib.hid (HF.out (g k))
      obtain ⟨c, hc⟩ : ∃ c, c = flC a b g n k := ⟨_, rfl⟩
      obtain ⟨c', hc'⟩ : ∃ c', c' = flN a b (g k) n := ⟨_, rfl⟩
      rw [← hc, ← hc'] at hc1
      rw [← hc'] at HFK
      rw [← hc]
      have HC1 := Lib.hid hc1
      have hsum : c + c' ≤ 1024 := by omega
      obtain ⟨hadd, hadd3⟩ := add_in hsum
      clear hrow hrows hgk hle hle2 hkn hc1 hc hc'
      go_wp2_with fail
      refine Calls.mono (HFK.out _ _ HROW.out) ?_
      intro e w4 hpost
      obtain ⟨va, he, hra, hb⟩ := hpost
      subst he
      have HRA := Lib.hid hra
      obtain ⟨Av, cv, hva, _⟩ := hra
      subst hva
      have HBK4 := Lib.hid (HBW.out.call hb)
      have s4 := (hb.cell (p := ⟨q, k, none⟩) hq').trans s3
      have f4 : ∀ o, w4.frozen? ⟨q, o, none⟩ = false := HBK4.out.2.2.2.2.2.2.2.1
      have y0 := (hb.cell (p := ⟨w.heap.size, 0, none⟩) xz).trans x0
      have y1 := (hb.cell (p := ⟨w.heap.size, 1, none⟩) xz).trans x1
      have y3 := (hb.cell (p := ⟨p, 3, none⟩) hp').trans x3
      have hz4 := hb.size
      have HBT4 : Hid (But q w w4) := HBT.out.trans (But.of hb (by omega))
      have hwr := HBT.out.below.size
      have HST : Hid (∀ v, But q w4 (w4.setCell ⟨q, k, none⟩ v)) := fun v => But.set k v
      have HPUT : Hid (BkAt (w4.setCell ⟨q, k, none⟩ (.slice Av n cv)) D p q S B n (flG a b g (k + 1))) :=
        (HBK4.out.put (by rw [← HM.out]; exact hlt) (PlRowD.of_own HRA.out fun b hb => by have := HD.out b hb; omega) hq).congr fun i _ => HNXG.out i
      clear hb HRA HROW HFK s3 x0 x1 x3 HNXG HBW HBT
      go_wp2
      go_roundw
      case rel =>
        refine ⟨k + 1, by omega, by go_num, (by rw [HC1.out]; first | rfl | (simp; done)), HPUT, HBT4.out.trans (HST.out _), ?_⟩
        exact ⟨((HST.out _).cell (show w.heap.size < _ by omega) (show w.heap.size ≠ q by omega)).trans y0, ((HST.out _).cell (show w.heap.size < _ by omega) (show w.heap.size ≠ q by omega)).trans y1, ((HST.out _).cell (show p < _ by omega) hpq).trans y3, by rw [World.size_setCell]; omega⟩
      case measure => simp [intOf]; omega
    · have hkM : M = k := by omega
      subst hkM
      go_wp2
      go_ret
      exact ⟨rfl, HBW.out, HBT.out⟩
end
section
open Go.RowKit

/-- The place of the greatest of the first k, the first of several. -/
def bestI (f : Nat → Nat) : Nat → Int
  | 0 => -1
  | k + 1 => if bestI f k < 0 ∨ f (bestI f k).toNat < f k then (k : Int) else bestI f k
theorem bestI_bd (f : Nat → Nat) : ∀ k, -1 ≤ bestI f k ∧ bestI f k < k
  | 0 => by simp [bestI]
  | k + 1 => by
    have := bestI_bd f k
    rw [bestI]
    split <;> omega
theorem bestI_pos (f : Nat → Nat) : ∀ k, 0 < k → 0 ≤ bestI f k
  | 0, h => by omega
  | k + 1, _ => by
    rw [bestI]
    split
    · omega
    · rename_i h
      omega
theorem bestI_best (f : Nat → Nat) : ∀ k i, i < k → f i ≤ f (bestI f k).toNat ∧ ((i : Int) < bestI f k → f i < f (bestI f k).toNat)
  | 0, i, h => by omega
  | k + 1, i, h => by
    have hb := bestI_bd f k
    rw [bestI]
    split
    · rename_i hc
      rw [Int.toNat_natCast]
      rcases hc with hc | hc
      · have hk : k = 0 := by
          rcases Nat.eq_zero_or_pos k with h0 | h0
          · exact h0
          · have := bestI_pos f k h0; omega
        subst hk
        obtain rfl : i = 0 := by omega
        exact ⟨Nat.le_refl _, fun h => by omega⟩
      · rcases Nat.lt_or_ge i k with hi | hi
        · have := (bestI_best f k i hi).1
          exact ⟨by omega, fun _ => by omega⟩
        · obtain rfl : i = k := by omega
          exact ⟨Nat.le_refl _, fun h => by omega⟩
    · rename_i hc
      rcases Nat.lt_or_ge i k with hi | hi
      · exact bestI_best f k i hi
      · obtain rfl : i = k := by omega
        exact ⟨by omega, fun h => by omega⟩
def ageAt (now : Nat) (l : List Nat) (i : Nat) : Nat := ageN now (l.getD i 0)
def oldestN (now : Nat) (l : List Nat) (k : Nat) : Int := bestI (ageAt now l) k
theorem ageAt_lt (now : Nat) (l : List Nat) (i : Nat) : ageAt now l i < 2147483648 := ageN_lt _ _
theorem oldest_new {now : Nat} {l : List Nat} {k : Nat} (h : oldestN now l k < 0 ∨ ageAt now l (oldestN now l k).toNat < ageAt now l k) : oldestN now l (k + 1) = (k : Int) := by
  unfold oldestN at *
  rw [bestI, if_pos h]
theorem oldest_same {now : Nat} {l : List Nat} {k : Nat} (h : 0 ≤ oldestN now l k) (h2 : ¬ ageAt now l (oldestN now l k).toNat < ageAt now l k) : oldestN now l (k + 1) = oldestN now l k := by
  unfold oldestN at *
  rw [bestI, if_neg (by omega)]

end
section
theorem bestF_ok (ok : Nat → Bool) (f : Nat → Nat) : ∀ k, 0 ≤ bestF ok f k → ok (bestF ok f k).toNat = true
  | 0 => by simp [bestF]
  | k + 1 => by
    intro h
    rw [bestF] at h ⊢
    split
    · rename_i h1; simpa using h1.1
    · rename_i h1
      rw [if_neg h1] at h
      exact bestF_ok ok f k h
theorem roomF_other {f : Nat → Pl} {now n i : Nat} (hu : (f i).used = true) (hs : (f i).e.st = true) : (roomF f now n).1 ≠ (i : Int) := by
  intro h
  unfold roomF at h
  split at h
  · rename_i h1
    have h2 := firstJ_holds _ n h1
    dsimp only at h
    rw [h] at h2
    simp [hu] at h2
  · split at h
    · dsimp only at h; omega
    · rename_i h1 h2
      have h3 := bestF_ok (fun i => !(f i).e.st) (fun i => ageN now (f i).e.stamp) n (by omega)
      dsimp only at h
      rw [h] at h3
      simp [hs] at h3
theorem putF_stays {f : Nat → Pl} {e : En} {now n i : Nat} (he : e.st = false) (hu : (f i).used = true) (hs : (f i).e.st = true) : (putF f e now n).1 i = f i := by
  unfold putF
  split
  · rfl
  · split
    · split
      · rfl
      · rename_i h1 h2 h3
        show updP f _ _ i = f i
        unfold updP
        rw [if_neg]
        intro hc
        exact roomF_other (now := now) (n := n) hu hs (by omega)
    · split
      · rfl
      · rename_i h1 h2 h3
        show updP f _ _ i = f i
        unfold updP
        rw [if_neg]
        intro hc
        apply h3
        unfold againE
        rw [if_pos]
        exact Or.inr ⟨by rw [← hc]; exact hs, he⟩
theorem putF_stamp {f : Nat → Pl} {e : En} {now n : Nat} (h : ∀ i, i < n → (f i).e.stamp < 4294967296) (he : e.stamp < 4294967296) : ∀ i, i < n → ((putF f e now n).1 i).e.stamp < 4294967296 := by
  intro i hi
  have hu : ∀ j, (updP f j ⟨true, e⟩ i).e.stamp < 4294967296 := by
    intro j
    unfold updP
    split
    · exact he
    · exact h i hi
  unfold putF
  split
  · exact h i hi
  · split
    · split
      · exact h i hi
      · exact hu _
    · split
      · exact h i hi
      · exact hu _
theorem sweepF_stays {f : Nat → Pl} {g : En → Bool} {i : Nat} (hs : (f i).e.st = true) : sweepF f g i = f i := by
  unfold sweepF goesF
  rw [hs]
  simp
theorem ownP_used {x : Pl} (h : x.used = true) : ownP x = x := by unfold ownP; rw [if_pos h]
/-- An ordered entry stands, whatever is learned, aged and flushed. -/
theorem keeps_all {F : Nat → Pl} {e : En} {now n i : Nat} (he : e.st = false) (hu : (F i).used = true) (hs : (F i).e.st = true) (p q : En → Bool) :
    sweepF (fun i => ownP (sweepF (fun i => ownP ((putF (fun i => ownP (F i)) e now n).1 i)) p i)) q i = F i := by
  have h0 : (fun i => ownP (F i)) i = F i := ownP_used hu
  have h1 : (putF (fun i => ownP (F i)) e now n).1 i = F i := by
    exact (putF_stays (f := fun i => ownP (F i)) he ((congrArg Pl.used h0).trans hu) ((congrArg (fun x => x.e.st) h0).trans hs)).trans h0
  have h2 : (fun i => ownP ((putF (fun i => ownP (F i)) e now n).1 i)) i = F i := by
    show ownP _ = _
    rw [h1, ownP_used hu]
  have h3 : sweepF (fun i => ownP ((putF (fun i => ownP (F i)) e now n).1 i)) p i = F i := by
    exact (sweepF_stays (f := fun i => ownP ((putF (fun i => ownP (F i)) e now n).1 i)) ((congrArg (fun x => x.e.st) h2).trans hs)).trans h2
  have h4 : (fun i => ownP (sweepF (fun i => ownP ((putF (fun i => ownP (F i)) e now n).1 i)) p i)) i = F i := by
    show ownP _ = _
    rw [h3, ownP_used hu]
  exact (sweepF_stays (f := fun i => ownP (sweepF (fun i => ownP ((putF (fun i => ownP (F i)) e now n).1 i)) p i)) ((congrArg (fun x => x.e.st) h4).trans hs)).trans h4

/-- A full row of learned entries, of the stamps S. -/
def fullF (S : Nat → Nat) (i : Nat) : Pl := ⟨true, ⟨1, 2 * i + 2, i, false, S i⟩⟩
theorem bestF_all (f : Nat → Nat) : ∀ k, bestF (fun _ => true) f k = bestI f k
  | 0 => rfl
  | k + 1 => by
    rw [bestF, bestI, bestF_all f k]
    simp
theorem bestI_congr {f g : Nat → Nat} : ∀ k, (∀ i, i < k → f i = g i) → bestI f k = bestI g k
  | 0, _ => rfl
  | k + 1, h => by
    have hb := bestI_bd g k
    rw [bestI, bestI, bestI_congr k fun i hi => h i (by omega), h k (by omega)]
    by_cases h0 : bestI g k < 0
    · simp [h0]
    · rw [h (bestI g k).toNat (by omega)]
theorem full_put {F : Nat → Pl} {S : Nat → Nat} {n m now : Nat} (hn : 0 < n) (hF : ∀ i, i < n → F i = fullF S i) (hm : rightK 9 m = true) :
    ∃ at_ : Nat, at_ < n ∧ bestI (fun i => ageN now (S i)) n = (at_ : Int) ∧
      putF (fun i => ownP (F i)) ⟨9, m, 5, false, now⟩ now n = (updP (fun i => ownP (F i)) at_ ⟨true, ⟨9, m, 5, false, now⟩⟩, 4) := by
  have hG : ∀ i, i < n → (fun i => ownP (F i)) i = fullF S i := fun i hi => by
    show ownP (F i) = _
    rw [hF i hi]; rfl
  obtain ⟨G, hGe⟩ : ∃ G, G = (fun i => ownP (F i)) := ⟨_, rfl⟩
  rw [← hGe] at hG ⊢
  have hr : rightE ⟨9, m, 5, false, now⟩ = true := rightE_iff.2 ⟨hm, show (0 : Int) ≤ 5 by decide, show (5 : Int) < 64 by decide, by simp⟩
  have hfind : findF G 9 m n < 0 := by
    unfold findF
    rw [firstJ_none _ n fun i hi => by unfold keyF; rw [hG i hi]; simp [fullF]]
    decide
  have hpos := bestI_pos (fun i => ageN now (S i)) n hn
  have hbd := bestI_bd (fun i => ageN now (S i)) n
  refine ⟨(bestI (fun i => ageN now (S i)) n).toNat, by omega, by omega, ?_⟩
  have hbest : bestP G now n = bestI (fun i => ageN now (S i)) n := by
    unfold bestP
    have h1 : ∀ k, k ≤ n → bestF (okF G) (agF G now) k = bestI (fun i => ageN now (S i)) k := by
      intro k
      induction k with
      | zero => intro _; rfl
      | succ k ih =>
        intro hk
        have hk' := hG k (by omega)
        have hb := bestI_bd (fun i => ageN now (S i)) k
        rw [bestF, bestI, ih (by omega)]
        have e1 : okF G k = true := by unfold okF; rw [hk']; rfl
        have e2 : agF G now k = ageN now (S k) := by unfold agF; rw [hk']; rfl
        rw [e1, e2]
        by_cases h0 : bestI (fun i => ageN now (S i)) k < 0
        · simp [h0]
        · have e3 : agF G now (bestI (fun i => ageN now (S i)) k).toNat = ageN now (S (bestI (fun i => ageN now (S i)) k).toNat) := by
            unfold agF; rw [hG _ (by omega)]; rfl
          rw [e3]; simp
    exact h1 n (Nat.le_refl _)
  have hroom : roomF G now n = (bestI (fun i => ageN now (S i)) n, 4) := by
    rw [roomF_full fun i hi => by rw [hG i hi]; rfl, hbest, if_neg (by omega)]
  rw [putF_new (j := (bestI (fun i => ageN now (S i)) n).toNat) hr hfind (by rw [hroom]; show _ = _; dsimp only; omega), hroom]
end
section
open Go.RowKit

/-- What is done, of a kind: the places behind it, and the answer. -/
def doG (K : Nat) (v : Int) (m : Nat) (port vid : Int) (now old : Nat) (S B n : Nat) (g : Nat → Nat → Pl) : (Nat → Nat → Pl) × Int :=
  if K = 0 then (g, portF (g (homeN v m S B)) v m n)
  else if K = 3 then (updR g (homeN v m S B) (putF (fun i => ownP (g (homeN v m S B) i)) ⟨v, m, port, true, 0⟩ now n).1, ((putF (fun i => ownP (g (homeN v m S B) i)) ⟨v, m, port, true, 0⟩ now n).2 : Nat))
  else if K = 4 then (updR g (homeN v m S B) (dropF (fun i => ownP (g (homeN v m S B) i)) v m n).1, if (dropF (fun i => ownP (g (homeN v m S B) i)) v m n).2 = true then 1 else 0)
  else if K = 5 then (if atI S B port vid < 0 then (g, 0) else (updR g (atI S B port vid).toNat (ageR g (atI S B port vid).toNat now old), (ageC g (atI S B port vid).toNat now old n : Nat)))
  else if K = 6 then (flG port vid g (S * B), (flC port vid g n (S * B) : Nat))
  else (updR g (homeN v m S B) (putF (fun i => ownP (g (homeN v m S B) i)) ⟨v, m, port, false, now⟩ now n).1, ((putF (fun i => ownP (g (homeN v m S B) i)) ⟨v, m, port, false, now⟩ now n).2 : Nat))
def stG (g : Nat → Nat → Pl) : Prop := ∀ i j, (g i j).e.stamp < 4294967296
theorem own_st {f : Nat → Pl} (h : ∀ j, (f j).e.stamp < 4294967296) (j : Nat) : (ownP (f j)).e.stamp < 4294967296 := by
  unfold ownP
  split
  · exact h j
  · show (0 : Nat) < _; omega
theorem updP_st {f : Nat → Pl} {x : Pl} (h : ∀ j, (f j).e.stamp < 4294967296) (hx : x.e.stamp < 4294967296) (k j : Nat) : (updP f k x j).e.stamp < 4294967296 := by
  unfold updP
  split
  · exact hx
  · exact h j
theorem put_st {f : Nat → Pl} {e : En} {now n : Nat} (h : ∀ j, (f j).e.stamp < 4294967296) (he : e.stamp < 4294967296) (j : Nat) : ((putF f e now n).1 j).e.stamp < 4294967296 := by
  unfold putF
  split
  · exact h j
  · split
    · split
      · exact h j
      · exact updP_st h he _ j
    · split
      · exact h j
      · exact updP_st h he _ j
theorem drop_st {f : Nat → Pl} {v : Int} {m n : Nat} (h : ∀ j, (f j).e.stamp < 4294967296) (j : Nat) : ((dropF f v m n).1 j).e.stamp < 4294967296 := by
  unfold dropF
  split
  · exact h j
  · split
    · exact updP_st h (by show (0 : Nat) < _; omega) _ j
    · exact h j
theorem sweep_st {f : Nat → Pl} {c : En → Bool} (h : ∀ j, (f j).e.stamp < 4294967296) (j : Nat) : (sweepF f c j).e.stamp < 4294967296 := by
  unfold sweepF
  split
  · show (0 : Nat) < _; omega
  · exact h j
theorem updR_st {g : Nat → Nat → Pl} {f : Nat → Pl} (h : stG g) (hf : ∀ j, (f j).e.stamp < 4294967296) (k : Nat) : stG (updR g k f) := by
  intro i j
  unfold updR
  split
  · exact hf j
  · exact h i j
theorem doG_st (K : Nat) (v : Int) (m : Nat) (port vid : Int) (now old : Nat) (S B n : Nat) (g : Nat → Nat → Pl) (h : stG g) (hnow : now < 4294967296) : stG (doG K v m port vid now old S B n g).1 := by
  unfold doG
  split
  · exact h
  · split
    · exact updR_st h (put_st (own_st (h _)) (by show (0 : Nat) < _; omega)) _
    · split
      · exact updR_st h (drop_st (own_st (h _))) _
      · split
        · split
          · exact h
          · exact updR_st h (sweep_st (own_st (h _))) _
        · split
          · intro i j
            show (flG port vid g (S * B) i j).e.stamp < 4294967296
            unfold flG
            split
            · exact sweep_st (own_st (h _)) j
            · exact h i j
          · exact updR_st h (put_st (own_st (h _)) hnow) _
theorem at_cases (S B : Nat) (s t : Int) : (atI S B s t = -1 ∧ atI S B s t < 0) ∨ ∃ H : Nat, H < S * B ∧ atI S B s t = (H : Int) := by
  by_cases hc : 0 ≤ s ∧ s < S ∧ 0 ≤ t ∧ t < B
  · right
    obtain ⟨c1, c2, c3, c4⟩ := hc
    obtain ⟨a, rfl⟩ := Int.eq_ofNat_of_zero_le c1
    obtain ⟨b, rfl⟩ := Int.eq_ofNat_of_zero_le c3
    refine ⟨a * B + b, at_lt (by omega) (by omega), ?_⟩
    unfold atI
    rw [if_pos ⟨c1, c2, c3, c4⟩]
    simp
  · left
    have e : atI S B s t = -1 := if_neg hc
    exact ⟨e, by omega⟩
end
end Go.Proofs.Ytcnfilbmmlolmaa
