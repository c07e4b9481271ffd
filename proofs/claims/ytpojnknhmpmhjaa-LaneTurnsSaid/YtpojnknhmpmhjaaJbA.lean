/-
  Queues in turn, the document's: a row of rows of numbers and a cursor, in memory; the next number. No statement is proved here.
-/
import Derived.Test.YtpojnknhmpmhjaaLnJ
import Derived.Test.YtpojnknhmpmhjaaQue
set_option linter.unusedVariables false
namespace Go.Proofs.Ytpojnknhmpmhjaa
open Go.RowKit

def lanF (g n at_ : Nat) : Nat → Value
  | 0 => .slice (some ⟨g, 0, none⟩) n n
  | _ => .int .i64 (at_ : Nat)
/-- Queues q, the document's, in block lb; their rows stand in block g; the cursor is at_. -/
structure LanAt (w : World) (lb g n at_ : Nat) (qv : Nat → Value) (q : Nat → List Int) : Prop where
  row : w.rowIs lb 64 2 (lanF g n at_)
  cells : w.rowIs g 23 n qv
  own : ∀ i, i < n → w.ownsRow (lb + 1) 22 1 (qv i) (q i).length (kv .u64 (q i))
  dis : ∀ i j k, i < n → j < n → i ≠ j → (qv i).ownBlock = some k → (qv j).ownBlock ≠ some k
  gl : g < lb
theorem LanAt.below {w w' : World} {lb g n at_ : Nat} {qv : Nat → Value} {q : Nat → List Int} (h : LanAt w lb g n at_ qv q) (hb : Below w.heap.size w w') : LanAt w' lb g n at_ qv q :=
  ⟨h.row.of_block (hb.block _ h.row.lt), h.cells.of_block (hb.block _ h.cells.lt), fun i hi => own_below (h.own i hi) hb, h.dis, h.gl⟩
theorem LanAt.tch {w w' : World} {lb g n at_ : Nat} {qv : Nat → Value} {q : Nat → List Int} {D : Nat → Prop} (h : LanAt w lb g n at_ qv q) (ht : Tch D w w') (hd : ∀ k, g ≤ k → k < w.heap.size → ¬ D k) : LanAt w' lb g n at_ qv q := by
  have hg := h.gl
  have h1 := h.row.lt
  exact ⟨rowIs_tch h.row ht (hd _ (by omega) h1), rowIs_tch h.cells ht (hd _ (Nat.le_refl _) (by omega)), fun i hi => own_tch (h.own i hi) ht (fun k hk => hd k (by have := ((h.own i hi).lt k hk).1; omega) ((h.own i hi).lt k hk).2), h.dis, h.gl⟩
/-- What a turn of the queues touches. -/
def LanD (n g lb : Nat) (qv : Nat → Value) (y : Nat) : Prop := y = g ∨ y = lb ∨ ∃ i, i < n ∧ (qv i).ownBlock = some y
/-- A row was made anew from block r, or grew, and is stored. -/
theorem LanAt.app {w w9 : World} {lb g n at_ k : Nat} {qv : Nat → Value} {q : Nat → List Int} (h : LanAt w lb g n at_ qv q) (hk : k < n) {o : Obj} {v' : Value} {l' : List Int} {r : Option Nat} (how : w9.ownsRow (lb + 1) 22 1 v' l'.length (kv .u64 l')) (hg : (w.alloc o).grownBy w9 r) (hl : v'.ownBlock = r ∨ v'.ownBlock = some (w.alloc o).heap.size)
    (hr : ∀ x, r = some x → (qv k).ownBlock = some x ∨ w.heap.size ≤ x) :
    LanAt (w9.setCell ⟨g, k, none⟩ v') lb g n at_ (upd qv k v') (upd q k l') ∧ Tch (LanD n g lb qv) w (w9.setCell ⟨g, k, none⟩ v') := by
  have hglt := h.gl
  have hlb := h.row.lt
  have hT : Tch (fun y => r = some y) w w9 := (Tch.of_below ((Below.refl _ _).alloc (Nat.le_refl _) o)).trans ((Tch.grown hg fun j hj => hj).mono fun y _ hy => hy)
  have hrb : ∀ x, r = some x → lb + 1 ≤ x := fun x hx => by
    rcases hr x hx with e | e
    · exact ((h.own k hk).lt x e).1
    · omega
  have hlow : ∀ y, y ≤ lb → ¬ r = some y := fun y hy e => by have := hrb y e; omega
  have hset : ∀ x, x ≠ g → (w9.setCell ⟨g, k, none⟩ v').heap[x]? = w9.heap[x]? := fun x hx => Below.heap_setCell _ _ _ _ (by show x ≠ g; exact hx)
  have hoth : ∀ i x, i < n → i ≠ k → (qv i).ownBlock = some x → ¬ r = some x := fun i x hi hik e1 e2 => by
    rcases hr x e2 with e | e
    · exact h.dis i k x hi hk hik e1 e
    · have := ((h.own i hi).lt x e1).2; omega
  have hnew : ∀ i x, i < n → i ≠ k → (qv i).ownBlock = some x → v'.ownBlock ≠ some x := fun i x hi hik e1 e2 => by
    rcases hl with e | e
    · exact hoth i x hi hik e1 (by rw [← e]; exact e2)
    · rw [e] at e2
      have := ((h.own i hi).lt x e1).2
      injection e2 with e2
      have e3 := (World.size_alloc w o)
      omega
  have hs := hT.size
  refine ⟨⟨?_, ?_, fun i hi => ?_, fun i j x hi hj hij => ?_, hglt⟩, ?_⟩
  · exact (rowIs_tch h.row hT (hlow lb (Nat.le_refl _))).of_block (hset lb (by omega))
  · exact ((rowIs_tch h.cells hT (hlow g (by omega))).set k v').congr fun i hi => (by unfold upd; rfl)
  · by_cases e : i = k
    · subst e
      rw [upd_same, upd_same]
      exact own_setCell how (by show g < lb + 1; omega) _
    · rw [upd_other _ e, upd_other _ e]
      exact own_setCell (own_tch (h.own i hi) hT (fun x hx => hoth i x hi e hx)) (by show g < lb + 1; omega) _
  · by_cases e1 : i = k <;> by_cases e2 : j = k
    · omega
    · rw [e1, upd_same, upd_other _ e2]
      exact fun a b => hnew j x hj e2 b a
    · rw [e2, upd_same, upd_other _ e1]
      exact hnew i x hi e1
    · rw [upd_other _ e1, upd_other _ e2]
      exact h.dis i j x hi hj hij
  · refine (hT.mono (E := LanD n g lb qv) fun y hy e => ?_).setCell (p := ⟨g, k, none⟩) (.inl rfl) _
    rcases hr y e with e' | e'
    · exact .inr (.inr ⟨k, hk, e'⟩)
    · omega
theorem LanAt.turn {w : World} {lb g n at_ : Nat} {qv : Nat → Value} {q : Nat → List Int} (h : LanAt w lb g n at_ qv q) (c : Nat) : LanAt (w.setCell ⟨lb, 1, none⟩ (.int .i64 (c : Nat))) lb g n c qv q := by
  have hg := h.gl
  refine ⟨(h.row.set 1 _).congr fun i hi => (by
    match i, hi with
    | 0, _ => rfl
    | 1, _ => rfl), h.cells.of_block (Below.heap_setCell _ _ _ _ (by show g ≠ lb; omega)), fun i hi => own_setCell (h.own i hi) (by show lb < lb + 1; omega) _, h.dis, h.gl⟩
set_option maxRecDepth 100000 in
set_option maxHeartbeats 6400000 in
theorem ref15_Next {w : World} {lb g n at_ : Nat} {qv : Nat → Value} {q : Nat → List Int} (h : LanAt w lb g n at_ qv q) (hn1 : 1 ≤ n) (hn : n ≤ 100000) (hat : at_ < n) (hq : ∀ i, i < n → (q i).length ≤ 100000) :
    Calls Try.prog 35 #[.pointer (some ⟨lb, 0, none⟩)] w fun e w' => ∃ qv' q' at', LanAt w' lb g n at' qv' q' ∧ Tch (LanD n g lb qv) w w' ∧ ((∃ j x r, j < n ∧ (∀ i, i < j → q ((at_ + i) % n) = []) ∧ q ((at_ + j) % n) = x :: r ∧ e = .returned (.tuple #[.int .u64 x, .int .i64 (((at_ + j) % n : Nat) : Int)]) ∧ at' = ((at_ + j) % n + 1) % n ∧ q' = upd q ((at_ + j) % n) r) ∨ ((∀ i, i < n → q ((at_ + i) % n) = []) ∧ e = .returned (.tuple #[.int .u64 0, .int .i64 (-1)]) ∧ q' = q ∧ at' = at_)) := by
  have HL := Lib.hid h
  have r0 : w.cell? ⟨lb, 0, none⟩ = some (.slice (some ⟨g, 0, none⟩) n n) := h.row.cell (i := 0) (by omega)
  have r1 : w.cell? ⟨lb, 1, none⟩ = some (.int .i64 (at_ : Nat)) := h.row.cell (i := 1) (by omega)
  have hgl := h.gl
  have HGL := Lib.hid hgl
  have HLT := Lib.hid h.row.lt
  have HQ := Lib.hid hq
  clear h hq hgl
  go_enter Try.func35, Try.ntmps35
  go_wp2
  go_loopw [4] (fun i wr => ∃ j : Nat, i = .int .i64 j ∧ j ≤ n ∧ Hid (∀ i, i < j → q ((at_ + i) % n) = []) ∧ Hid (Below w.heap.size w wr)) (fun i _ => n - (intOf i).toNat)
  case atStart => exact ⟨0, rfl, by omega, (fun i hi => absurd hi (by omega)), Below.refl _ _⟩
  case round =>
    obtain ⟨j, rfl, hj0, HEM, HB⟩ := hrel
    have c0 : wr.cell? ⟨lb, 0, none⟩ = some (.slice (some ⟨g, 0, none⟩) n n) := (HB.out.cell (p := ⟨lb, 0, none⟩) HLT.out).trans r0
    have c1 : wr.cell? ⟨lb, 1, none⟩ = some (.int .i64 (at_ : Nat)) := (HB.out.cell (p := ⟨lb, 1, none⟩) HLT.out).trans r1
    have LA := Lib.hid (HL.out.below HB.out)
    clear r0 r1
    by_cases hj : j < n
    · have d1 : decide (j < n) = true := by simp; omega
      obtain ⟨k, hk⟩ : ∃ k, k = (at_ + j) % n := ⟨_, rfl⟩
      have hkn : k < n := by rw [hk]; exact Nat.mod_lt _ (by omega)
      have HKM : Hid (((at_ : Int) + (j : Int)) % (n : Int) = (k : Int)) := by show _ = _; rw [hk]; rfl
      have ck : wr.cell? ⟨g, k, none⟩ = some (qv k) := LA.out.cells.cell hkn
      have HLQ := Lib.hid (HQ.out k hkn)
      have HLW : Hid (lb < wr.heap.size) := LA.out.row.lt
      have HKE := Lib.hid hk
      have hkm := HKM.out
      have hnz : (n : Int) ≠ 0 := by omega
      rcases hqk : q k with _ | ⟨x, r⟩
      · obtain ⟨A, c, hv, hnc, hcm⟩ := (Sl.of_own (LA.out.own k hkn)).form
        rw [hv, hqk, List.length_nil] at ck
        have HEM2 : Hid (∀ i, i < j + 1 → q ((at_ + i) % n) = []) := fun i hi => by
          by_cases e : i = j
          · rw [e, ← hk]; exact hqk
          · exact HEM.out i (by omega)
        clear hk hqk hv
        go_wp2_with fail
        go_quiet (fail)
        simp only [hkm]
        go_wp2
        go_roundw
        case rel => exact ⟨j + 1, by go_num, by omega, HEM2.out, below_drewN HB.out _⟩
        case measure => simp [intOf]; omega
      · have hsl := Sl.of_own (LA.out.own k hkn)
        have hlq := HLQ.out
        rw [hqk] at hsl hlq
        rw [show (x :: r).length = r.length + 1 from rfl] at hsl hlq
        obtain ⟨_, A, c, hv, hnc, hcm, hA⟩ := hsl
        unfold maxLen at hcm
        obtain ⟨bb, off, rfl, hbb, hc⟩ := hA (by omega)
        rw [hv] at ck
        have cx : wr.cell? ⟨bb, off, none⟩ = some (.int .u64 x) := by
          have := hc 0 (by omega)
          simpa [kv] using this
        have HSL : Hid (Sl wr wr.heap.size 1 (.slice (some ⟨bb, off + 1, none⟩) r.length (c - 1)) r.length (kv .u64 r)) := by
          refine ⟨by rw [kv_length, Nat.mul_one], some ⟨bb, off + 1, none⟩, c - 1, rfl, by omega, by unfold maxLen; omega, fun hh => ⟨bb, off + 1, rfl, hbb, fun j hj => ?_⟩⟩
          have := hc (j + 1) (by omega)
          rw [show off + 1 + j = off + (j + 1) by omega, this]
          simp [kv]
        have HLA9 : Hid (∀ w7, Below wr.heap.size wr w7 → w7.heap.size = wr.heap.size → ∀ w9 v9, w9.ownsRow (lb + 1) 22 1 v9 r.length (kv .u64 r) → (w7.alloc (.cells #[] 22)).grownBy w9 (some wr.heap.size) → (v9.ownBlock = some wr.heap.size ∨ v9.ownBlock = some (w7.alloc (.cells #[] 22)).heap.size) → LanAt (w9.setCell ⟨g, k, none⟩ v9) lb g n at_ (upd qv k v9) (upd q k r) ∧ Tch (LanD n g lb qv) wr (w9.setCell ⟨g, k, none⟩ v9)) := fun w7 hb hs w9 v9 a1 a2 a3 => by
          obtain ⟨y1, y2⟩ := (LA.out.below hb).app hkn a1 a2 a3 (fun x hx => by injection hx with hx; omega)
          exact ⟨y1, (Tch.of_below hb).trans y2⟩
        have hal0 : ∀ w7 o, Below wr.heap.size wr w7 → (w7.alloc o).cell? ⟨lb, 0, none⟩ = some (.slice (some ⟨g, 0, none⟩) n n) := fun w7 o hb => (((hb.alloc hb.size o)).cell (p := ⟨lb, 0, none⟩) HLW.out).trans c0
        obtain ⟨N, hN⟩ : ∃ N, N = r.length := ⟨_, rfl⟩
        rw [← hN] at ck hnc HSL hlq
        have hal1 : ∀ w7 o, Below wr.heap.size wr w7 → (w7.alloc o).cell? ⟨g, k, none⟩ = some (.slice (some ⟨bb, off, none⟩) (N + 1) c) := fun w7 o hb => (((hb.alloc hb.size o)).cell (p := ⟨g, k, none⟩) (by have := HLW.out; have := HGL.out; show g < _; omega)).trans ck
        have cf : wr.frozen? ⟨g, k, none⟩ = false := LA.out.cells.frozen k
        have hal2 : ∀ w7 o, Below wr.heap.size wr w7 → (w7.alloc o).frozen? ⟨g, k, none⟩ = false := fun w7 o hb => (((hb.alloc hb.size o)).frozen (p := ⟨g, k, none⟩) (by have := HLW.out; have := HGL.out; show g < _; omega)).trans cf
        have HN : Hid (r.length = N) := hN.symm
        have HQK : Hid (q ((at_ + j) % n) = x :: r) := by rw [← hk]; exact hqk
        have hd0 : decide (0 < (N : Int) + 1) = true := decide_eq_true (by omega)
        clear hN hk hqk hv hA hc
        by_cases h0 : N = 0
        · have hr : r = [] := List.length_eq_zero_iff.1 (by rw [HN.out]; exact h0)
          subst hr
          subst h0
          have HLS : ∀ A cap (W : World), cap ≤ 9223372036854775807 → Sl W 0 1 (.slice A 0 cap) 0 (kv .u64 []) := fun A cap W hc => ⟨rfl, A, cap, rfl, Nat.zero_le _, by unfold maxLen; omega, fun hh => absurd hh (by omega)⟩
          clear HSL
          rw [Nat.zero_add] at ck hnc hal1
          by_cases h1 : c = 1
          · subst h1
            go_wp2_with fail
            go_quiet (fail)
            simp only [hkm]
            go_wp2_with fail
            refine wp_region_held_drew (S := fun w' => w'.cell? ⟨lb, 0, none⟩ = some (.slice (some ⟨g, 0, none⟩) n n)) (by kernel_rfl) ?_ (fun hHeld => ?_)
            · exact c0
            refine wpAnyH_take (i := 0) (oi := { dst := some 46, op := Go.Op.move (Go.Operand.tmp 0), type := 61, pos := "ref.go:16", after := #[], guard := none }) (v := ?_) rfl (by kernel_rfl) (by kernel_rfl) (by kernel_rfl) (fun _ _ _ h => h) (Or.inl ⟨by rfl, ?_⟩) (by assumption) ?_
            rotate_left
            · intro w hSw
              (try dsimp only at hSw)
              go_simp
              try with_reducible rfl
            (try simp only [Act.put, List.setIfInBounds_toArray, List.set_cons_zero, List.set_cons_succ])
            refine wpAnyH_take (i := 1) (oi := { dst := some 47, op := Go.Op.nilCheck (Go.Operand.tmp 46), type := 0, pos := "ref.go:16", after := #[{ on := 0, ground := Go.Ground.data }], guard := none }) (v := ?_) rfl (by kernel_rfl) (by kernel_rfl) (by kernel_rfl) (fun _ _ _ h => h) (Or.inl ⟨by rfl, ?_⟩) (by assumption) ?_
            rotate_left
            · intro w hSw
              (try dsimp only at hSw)
              go_simp
              try with_reducible rfl
            (try simp only [Act.put, List.setIfInBounds_toArray, List.set_cons_zero, List.set_cons_succ])
            refine wpAnyH_take (i := 2) (oi := { dst := some 48, op := Go.Op.fieldAddr 64 (Go.Operand.tmp 47) 0, type := 0, pos := "ref.go:16", after := #[{ on := 1, ground := Go.Ground.data }], guard := none }) (v := ?_) rfl (by kernel_rfl) (by kernel_rfl) (by kernel_rfl) (fun _ _ _ h => h) (Or.inl ⟨by rfl, ?_⟩) (by assumption) ?_
            rotate_left
            · intro w hSw
              (try dsimp only at hSw)
              go_simp
              try with_reducible rfl
            (try simp only [Act.put, List.setIfInBounds_toArray, List.set_cons_zero, List.set_cons_succ])
            refine wpAnyH_take (i := 3) (oi := { dst := some 49, op := Go.Op.load 62 (Go.Operand.tmp 48), type := 62, pos := "ref.go:16", after := #[{ on := 2, ground := Go.Ground.data }], guard := none }) (v := ?_) rfl (by kernel_rfl) (by kernel_rfl) (by kernel_rfl) (fun _ _ _ h => h) (Or.inl ⟨by rfl, ?_⟩) (by assumption) ?_
            rotate_left
            · intro w hSw
              (try dsimp only at hSw)
              go_simp
              try with_reducible rfl
            (try simp only [Act.put, List.setIfInBounds_toArray, List.set_cons_zero, List.set_cons_succ])
            refine wpAnyH_take (i := 4) (oi := { dst := some 50, op := Go.Op.move (Go.Operand.tmp 5), type := 3, pos := "ref.go:16", after := #[], guard := none }) (v := ?_) rfl (by kernel_rfl) (by kernel_rfl) (by kernel_rfl) (fun _ _ _ h => h) (Or.inl ⟨by rfl, ?_⟩) (by assumption) ?_
            rotate_left
            · intro w hSw
              (try dsimp only at hSw)
              go_simp
              try with_reducible rfl
            (try simp only [Act.put, List.setIfInBounds_toArray, List.set_cons_zero, List.set_cons_succ])
            refine wpAnyH_take (i := 6) (oi := { dst := some 52, op := Go.Op.move (Go.Operand.tmp 0), type := 61, pos := "ref.go:16", after := #[], guard := none }) (v := ?_) rfl (by kernel_rfl) (by kernel_rfl) (by kernel_rfl) (fun _ _ _ h => h) (Or.inl ⟨by rfl, ?_⟩) (by assumption) ?_
            rotate_left
            · intro w hSw
              (try dsimp only at hSw)
              go_simp
              try with_reducible rfl
            (try simp only [Act.put, List.setIfInBounds_toArray, List.set_cons_zero, List.set_cons_succ])
            refine wpAnyH_take (i := 7) (oi := { dst := some 53, op := Go.Op.nilCheck (Go.Operand.tmp 52), type := 0, pos := "ref.go:16", after := #[{ on := 6, ground := Go.Ground.data }], guard := none }) (v := ?_) rfl (by kernel_rfl) (by kernel_rfl) (by kernel_rfl) (fun _ _ _ h => h) (Or.inl ⟨by rfl, ?_⟩) (by assumption) ?_
            rotate_left
            · intro w hSw
              (try dsimp only at hSw)
              go_simp
              try with_reducible rfl
            (try simp only [Act.put, List.setIfInBounds_toArray, List.set_cons_zero, List.set_cons_succ])
            refine wpAnyH_take (i := 8) (oi := { dst := some 54, op := Go.Op.fieldAddr 64 (Go.Operand.tmp 53) 0, type := 0, pos := "ref.go:16", after := #[{ on := 7, ground := Go.Ground.data }], guard := none }) (v := ?_) rfl (by kernel_rfl) (by kernel_rfl) (by kernel_rfl) (fun _ _ _ h => h) (Or.inl ⟨by rfl, ?_⟩) (by assumption) ?_
            rotate_left
            · intro w hSw
              (try dsimp only at hSw)
              go_simp
              try with_reducible rfl
            (try simp only [Act.put, List.setIfInBounds_toArray, List.set_cons_zero, List.set_cons_succ])
            refine wpAnyH_take (i := 9) (oi := { dst := some 55, op := Go.Op.load 62 (Go.Operand.tmp 54), type := 62, pos := "ref.go:16", after := #[{ on := 8, ground := Go.Ground.data }], guard := none }) (v := ?_) rfl (by kernel_rfl) (by kernel_rfl) (by kernel_rfl) (fun _ _ _ h => h) (Or.inl ⟨by rfl, ?_⟩) (by assumption) ?_
            rotate_left
            · intro w hSw
              (try dsimp only at hSw)
              go_simp
              try with_reducible rfl
            (try simp only [Act.put, List.setIfInBounds_toArray, List.set_cons_zero, List.set_cons_succ])
            refine wpAnyH_take (i := 10) (oi := { dst := some 56, op := Go.Op.move (Go.Operand.tmp 5), type := 3, pos := "ref.go:16", after := #[], guard := none }) (v := ?_) rfl (by kernel_rfl) (by kernel_rfl) (by kernel_rfl) (fun _ _ _ h => h) (Or.inl ⟨by rfl, ?_⟩) (by assumption) ?_
            rotate_left
            · intro w hSw
              (try dsimp only at hSw)
              go_simp
              try with_reducible rfl
            (try simp only [Act.put, List.setIfInBounds_toArray, List.set_cons_zero, List.set_cons_succ])
            refine wpAnyH_take (i := 11) (oi := { dst := some 57, op := Go.Op.indexAddr 62 (Go.Operand.tmp 55) (Go.Operand.tmp 56), type := 0, pos := "ref.go:16", after := #[{ on := 9, ground := Go.Ground.data }, { on := 10, ground := Go.Ground.data }], guard := none }) (v := ?_) rfl (by kernel_rfl) (by kernel_rfl) (by kernel_rfl) (fun _ _ _ h => h) (Or.inl ⟨by rfl, ?_⟩) (by assumption) ?_
            rotate_left
            · intro w hSw
              (try dsimp only at hSw)
              go_simp
              try with_reducible rfl
            (try simp only [Act.put, List.setIfInBounds_toArray, List.set_cons_zero, List.set_cons_succ])
            refine wpAnyH_ready (rs := [5, 12]) (by kernel_rfl) (by simp) ?_
            refine (AllReadyH.cons (o := { dst := some 51, op := Go.Op.buildSlice 23 0 #[], type := 23, pos := "ref.go:16", after := #[], guard := none }) rfl (fun K hK => ?_) (AllReadyH.cons (o := { dst := some 58, op := Go.Op.load 23 (Go.Operand.tmp 57), type := 23, pos := "ref.go:16", after := #[{ on := 11, ground := Go.Ground.data }], guard := none }) rfl (fun K hK => ?_) AllReadyH.nil))
            · go_simp

              refine hK.out _ _ ?_ (fun hHeld => ?_)
              · (try dsimp only)
                exact hal0 _ _ (by (repeat' (first | (with_reducible exact Below.refl _ _) | (with_reducible assumption) | (with_reducible refine Below.setCell ?_ ?_ _) | (with_reducible refine Below.alloc ?_ ?_ _) | (with_reducible refine below_drewN ?_ _) | (with_reducible refine Below.drew ?_) | go_size)))
              clear hK K
              (try simp only [Act.put, List.setIfInBounds_toArray, List.set_cons_zero, List.set_cons_succ])
              refine wpAnyH_ready (rs := [12]) (by kernel_rfl) (by simp) ?_
              refine (AllReadyH.cons (o := { dst := some 58, op := Go.Op.load 23 (Go.Operand.tmp 57), type := 23, pos := "ref.go:16", after := #[{ on := 11, ground := Go.Ground.data }], guard := none }) rfl (fun K hK => ?_) AllReadyH.nil)
              go_simp
              (try (rw [hal1 _ _ (by (repeat' (first | (with_reducible exact Below.refl _ _) | (with_reducible assumption) | (with_reducible refine Below.setCell ?_ ?_ _) | (with_reducible refine Below.alloc ?_ ?_ _) | (with_reducible refine below_drewN ?_ _) | (with_reducible refine Below.drew ?_) | go_size)))]; go_simp))
              refine hK.out _ _ ?_ (fun hHeld => ?_)
              · (try dsimp only)
                exact hHeld
              clear hK K
              (try simp only [Act.put, List.setIfInBounds_toArray, List.set_cons_zero, List.set_cons_succ])
              refine wpAnyH_take (i := 13) (oi := { dst := some 59, op := Go.Op.slice 23 (Go.Operand.tmp 58) (some (Go.Operand.const (Go.Value.int Go.IntKind.i64 1))) none none, type := 23, pos := "ref.go:16", after := #[{ on := 12, ground := Go.Ground.data }], guard := none }) (v := ?_) rfl (by kernel_rfl) (by kernel_rfl) (by kernel_rfl) (fun _ _ _ h => h) (Or.inl ⟨by rfl, ?_⟩) (by assumption) ?_
              rotate_left
              · intro w hSw
                (try dsimp only at hSw)
                go_simp
                try with_reducible rfl
              (try simp only [Act.put, List.setIfInBounds_toArray, List.set_cons_zero, List.set_cons_succ])
              refine wpAnyH_ready (rs := [14]) (by kernel_rfl) (by simp) ?_
              refine (AllReadyH.cons (o := { dst := some 60, op := Go.Op.call { callee := Go.Callee.builtin Go.Builtin.append, args := #[Go.Operand.tmp 51, Go.Operand.tmp 59], argTypes := #[23, 23] }, type := 23, pos := "ref.go:16", after := #[{ on := 5, ground := Go.Ground.data }, { on := 13, ground := Go.Ground.data }], guard := none }) rfl (fun K hK => ?_) AllReadyH.nil)
              refine step_app _ (by rfl) stU64s _ _ (by rfl) (lb + 1) (.slice (some ⟨wr.heap.size, 0, none⟩) 0 0) 0 [] (by rfl) (own_empty_at (by simp) (by have := HLW.out; simp; omega)) _ _ 0 (kv .u64 ([] : List Int)) (by rfl) (HLS _ _ _ (by omega)) (kv_ones _ _) (by omega) (by have := HLW.out; simp; omega) ?_
              intro v9 w9 hown9 hgr9 hat9 hbel9
              obtain ⟨A9, c9, hv9, _, _⟩ := (Sl.of_own hown9).form
              rw [Nat.zero_add] at hv9
              subst hv9
              have HN9 := Lib.hid (HLA9.out _ (by (repeat' (first | (with_reducible exact Below.refl _ _) | (with_reducible assumption) | (with_reducible refine Below.setCell ?_ ?_ _) | (with_reducible refine Below.alloc ?_ ?_ _) | (with_reducible refine below_drewN ?_ _) | (with_reducible refine Below.drew ?_) | go_size))) (by simp) w9 _ (by have := hown9; simp only [Nat.zero_add, List.nil_append] at this ⊢; rw [HN.out]; exact this) hgr9 hat9)
              have h9c : w9.cell? ⟨lb, 0, none⟩ = some (.slice (some ⟨g, 0, none⟩) n n) := (hbel9.cell (p := ⟨lb, 0, none⟩) (by show lb < lb + 1; omega)).trans (hal0 _ _ (by (repeat' (first | (with_reducible exact Below.refl _ _) | (with_reducible assumption) | (with_reducible refine Below.setCell ?_ ?_ _) | (with_reducible refine Below.alloc ?_ ?_ _) | (with_reducible refine below_drewN ?_ _) | (with_reducible refine Below.drew ?_) | go_size))))
              have h9f : w9.frozen? ⟨g, k, none⟩ = false := (hbel9.frozen (p := ⟨g, k, none⟩) (by have := HGL.out; show g < lb + 1; omega)).trans (hal2 _ _ (by (repeat' (first | (with_reducible exact Below.refl _ _) | (with_reducible assumption) | (with_reducible refine Below.setCell ?_ ?_ _) | (with_reducible refine Below.alloc ?_ ?_ _) | (with_reducible refine below_drewN ?_ _) | (with_reducible refine Below.drew ?_) | go_size))))
              have h9g := (hbel9.cell (p := ⟨g, k, none⟩) (by have := HGL.out; show g < lb + 1; omega)).trans (hal1 _ _ (by (repeat' (first | (with_reducible exact Below.refl _ _) | (with_reducible assumption) | (with_reducible refine Below.setCell ?_ ?_ _) | (with_reducible refine Below.alloc ?_ ?_ _) | (with_reducible refine below_drewN ?_ _) | (with_reducible refine Below.drew ?_) | go_size))))
              clear hown9 hgr9 hat9 hbel9
              refine hK.out _ _ ?_ (fun hHeld => ?_)
              · (try dsimp only)
                exact h9c
              clear hK K
              (try simp only [Act.put, List.setIfInBounds_toArray, List.set_cons_zero, List.set_cons_succ])
              refine wpAnyH_take (i := 15) (oi := { dst := some 61, op := Go.Op.indexAddr 62 (Go.Operand.tmp 49) (Go.Operand.tmp 50), type := 0, pos := "ref.go:16", after := #[{ on := 3, ground := Go.Ground.data }, { on := 4, ground := Go.Ground.data }, { on := 0, ground := Go.Ground.phase }, { on := 1, ground := Go.Ground.phase }, { on := 2, ground := Go.Ground.phase }, { on := 3, ground := Go.Ground.phase }, { on := 4, ground := Go.Ground.phase }, { on := 5, ground := Go.Ground.phase }, { on := 6, ground := Go.Ground.phase }, { on := 7, ground := Go.Ground.phase }, { on := 8, ground := Go.Ground.phase }, { on := 9, ground := Go.Ground.phase }, { on := 10, ground := Go.Ground.phase }, { on := 11, ground := Go.Ground.phase }, { on := 12, ground := Go.Ground.phase }, { on := 13, ground := Go.Ground.phase }, { on := 14, ground := Go.Ground.phase }], guard := none }) (v := ?_) rfl (by kernel_rfl) (by kernel_rfl) (by kernel_rfl) (fun _ _ _ h => h) (Or.inl ⟨by rfl, ?_⟩) (by assumption) ?_
              rotate_left
              · intro w hSw
                (try dsimp only at hSw)
                go_simp
                try with_reducible rfl
              (try simp only [Act.put, List.setIfInBounds_toArray, List.set_cons_zero, List.set_cons_succ])
              refine wpAnyH_ready (rs := [16]) (by kernel_rfl) (by simp) ?_
              refine (AllReadyH.cons (o := { dst := none, op := Go.Op.store 23 (Go.Operand.tmp 61) (Go.Operand.tmp 60), type := 0, pos := "ref.go:16", after := #[{ on := 15, ground := Go.Ground.data }, { on := 14, ground := Go.Ground.data }, { on := 14, ground := Go.Ground.chain }, { on := 0, ground := Go.Ground.phase }, { on := 1, ground := Go.Ground.phase }, { on := 2, ground := Go.Ground.phase }, { on := 3, ground := Go.Ground.phase }, { on := 4, ground := Go.Ground.phase }, { on := 5, ground := Go.Ground.phase }, { on := 6, ground := Go.Ground.phase }, { on := 7, ground := Go.Ground.phase }, { on := 8, ground := Go.Ground.phase }, { on := 9, ground := Go.Ground.phase }, { on := 10, ground := Go.Ground.phase }, { on := 11, ground := Go.Ground.phase }, { on := 12, ground := Go.Ground.phase }, { on := 13, ground := Go.Ground.phase }, { on := 14, ground := Go.Ground.phase }], guard := none }) rfl (fun K hK => ?_) AllReadyH.nil)
              go_simp

              refine hK.out _ _ ?_ (fun hHeld => ?_)
              · (try dsimp only)
                exact HN9.out.1.row.cell (i := 0) (by omega)
              clear hK K
              (try simp only [Act.put, List.setIfInBounds_toArray, List.set_cons_zero, List.set_cons_succ])
              refine wpAnyH_done (by kernel_rfl) ?_ _
              have HNz0 := HN9.out
              obtain ⟨wz, hwz⟩ : ∃ wz, wz = w9.setCell ⟨g, k, none⟩ (.slice A9 0 c9) := ⟨_, rfl⟩
              rw [← hwz] at HNz0 ⊢
              have HNz := Lib.hid HNz0
              have x0 : wz.cell? ⟨lb, 0, none⟩ = some (.slice (some ⟨g, 0, none⟩) n n) := HNz.out.1.row.cell (i := 0) (by omega)
              have x1 : wz.frozen? ⟨lb, 1, none⟩ = false := HNz.out.1.row.frozen 1
              have x2 : wz.cell? ⟨lb, 1, none⟩ = some (.int .i64 (at_ : Nat)) := HNz.out.1.row.cell (i := 1) (by omega)
              clear hwz hHeld HN9 HNz0
              clear h9c h9g h9f
              go_wp2
              go_ret2
              exact ⟨_, _, _, HNz.out.1.turn ((k + 1) % n), (Tch.of_below HB.out).trans (HNz.out.2.setCell (p := ⟨lb, 1, none⟩) (.inr (.inl rfl)) _), .inl ⟨j, x, _, hj, HEM.out, HQK.out, by first | (rw [← HKE.out]; done) | (rw [← HKE.out]; rfl), by first | (rw [← HKE.out]; done) | (rw [← HKE.out]; rfl), by first | (rw [← HKE.out]; done) | (rw [← HKE.out]; rfl)⟩⟩
            · go_simp
              (try (rw [hal1 _ _ (by (repeat' (first | (with_reducible exact Below.refl _ _) | (with_reducible assumption) | (with_reducible refine Below.setCell ?_ ?_ _) | (with_reducible refine Below.alloc ?_ ?_ _) | (with_reducible refine below_drewN ?_ _) | (with_reducible refine Below.drew ?_) | go_size)))]; go_simp))
              refine hK.out _ _ ?_ (fun hHeld => ?_)
              · (try dsimp only)
                exact hHeld
              clear hK K
              (try simp only [Act.put, List.setIfInBounds_toArray, List.set_cons_zero, List.set_cons_succ])
              refine wpAnyH_take (i := 13) (oi := { dst := some 59, op := Go.Op.slice 23 (Go.Operand.tmp 58) (some (Go.Operand.const (Go.Value.int Go.IntKind.i64 1))) none none, type := 23, pos := "ref.go:16", after := #[{ on := 12, ground := Go.Ground.data }], guard := none }) (v := ?_) rfl (by kernel_rfl) (by kernel_rfl) (by kernel_rfl) (fun _ _ _ h => h) (Or.inl ⟨by rfl, ?_⟩) (by assumption) ?_
              rotate_left
              · intro w hSw
                (try dsimp only at hSw)
                go_simp
                try with_reducible rfl
              (try simp only [Act.put, List.setIfInBounds_toArray, List.set_cons_zero, List.set_cons_succ])
              refine wpAnyH_ready (rs := [5]) (by kernel_rfl) (by simp) ?_
              refine (AllReadyH.cons (o := { dst := some 51, op := Go.Op.buildSlice 23 0 #[], type := 23, pos := "ref.go:16", after := #[], guard := none }) rfl (fun K hK => ?_) AllReadyH.nil)
              go_simp

              refine hK.out _ _ ?_ (fun hHeld => ?_)
              · (try dsimp only)
                exact hal0 _ _ (by (repeat' (first | (with_reducible exact Below.refl _ _) | (with_reducible assumption) | (with_reducible refine Below.setCell ?_ ?_ _) | (with_reducible refine Below.alloc ?_ ?_ _) | (with_reducible refine below_drewN ?_ _) | (with_reducible refine Below.drew ?_) | go_size)))
              clear hK K
              (try simp only [Act.put, List.setIfInBounds_toArray, List.set_cons_zero, List.set_cons_succ])
              refine wpAnyH_ready (rs := [14]) (by kernel_rfl) (by simp) ?_
              refine (AllReadyH.cons (o := { dst := some 60, op := Go.Op.call { callee := Go.Callee.builtin Go.Builtin.append, args := #[Go.Operand.tmp 51, Go.Operand.tmp 59], argTypes := #[23, 23] }, type := 23, pos := "ref.go:16", after := #[{ on := 5, ground := Go.Ground.data }, { on := 13, ground := Go.Ground.data }], guard := none }) rfl (fun K hK => ?_) AllReadyH.nil)
              refine step_app _ (by rfl) stU64s _ _ (by rfl) (lb + 1) (.slice (some ⟨wr.heap.size, 0, none⟩) 0 0) 0 [] (by rfl) (own_empty_at (by simp) (by have := HLW.out; simp; omega)) _ _ 0 (kv .u64 ([] : List Int)) (by rfl) (HLS _ _ _ (by omega)) (kv_ones _ _) (by omega) (by have := HLW.out; simp; omega) ?_
              intro v9 w9 hown9 hgr9 hat9 hbel9
              obtain ⟨A9, c9, hv9, _, _⟩ := (Sl.of_own hown9).form
              rw [Nat.zero_add] at hv9
              subst hv9
              have HN9 := Lib.hid (HLA9.out _ (by (repeat' (first | (with_reducible exact Below.refl _ _) | (with_reducible assumption) | (with_reducible refine Below.setCell ?_ ?_ _) | (with_reducible refine Below.alloc ?_ ?_ _) | (with_reducible refine below_drewN ?_ _) | (with_reducible refine Below.drew ?_) | go_size))) (by simp) w9 _ (by have := hown9; simp only [Nat.zero_add, List.nil_append] at this ⊢; rw [HN.out]; exact this) hgr9 hat9)
              have h9c : w9.cell? ⟨lb, 0, none⟩ = some (.slice (some ⟨g, 0, none⟩) n n) := (hbel9.cell (p := ⟨lb, 0, none⟩) (by show lb < lb + 1; omega)).trans (hal0 _ _ (by (repeat' (first | (with_reducible exact Below.refl _ _) | (with_reducible assumption) | (with_reducible refine Below.setCell ?_ ?_ _) | (with_reducible refine Below.alloc ?_ ?_ _) | (with_reducible refine below_drewN ?_ _) | (with_reducible refine Below.drew ?_) | go_size))))
              have h9f : w9.frozen? ⟨g, k, none⟩ = false := (hbel9.frozen (p := ⟨g, k, none⟩) (by have := HGL.out; show g < lb + 1; omega)).trans (hal2 _ _ (by (repeat' (first | (with_reducible exact Below.refl _ _) | (with_reducible assumption) | (with_reducible refine Below.setCell ?_ ?_ _) | (with_reducible refine Below.alloc ?_ ?_ _) | (with_reducible refine below_drewN ?_ _) | (with_reducible refine Below.drew ?_) | go_size))))
              have h9g := (hbel9.cell (p := ⟨g, k, none⟩) (by have := HGL.out; show g < lb + 1; omega)).trans (hal1 _ _ (by (repeat' (first | (with_reducible exact Below.refl _ _) | (with_reducible assumption) | (with_reducible refine Below.setCell ?_ ?_ _) | (with_reducible refine Below.alloc ?_ ?_ _) | (with_reducible refine below_drewN ?_ _) | (with_reducible refine Below.drew ?_) | go_size))))
              clear hown9 hgr9 hat9 hbel9
              refine hK.out _ _ ?_ (fun hHeld => ?_)
              · (try dsimp only)
                exact h9c
              clear hK K
              (try simp only [Act.put, List.setIfInBounds_toArray, List.set_cons_zero, List.set_cons_succ])
              refine wpAnyH_take (i := 15) (oi := { dst := some 61, op := Go.Op.indexAddr 62 (Go.Operand.tmp 49) (Go.Operand.tmp 50), type := 0, pos := "ref.go:16", after := #[{ on := 3, ground := Go.Ground.data }, { on := 4, ground := Go.Ground.data }, { on := 0, ground := Go.Ground.phase }, { on := 1, ground := Go.Ground.phase }, { on := 2, ground := Go.Ground.phase }, { on := 3, ground := Go.Ground.phase }, { on := 4, ground := Go.Ground.phase }, { on := 5, ground := Go.Ground.phase }, { on := 6, ground := Go.Ground.phase }, { on := 7, ground := Go.Ground.phase }, { on := 8, ground := Go.Ground.phase }, { on := 9, ground := Go.Ground.phase }, { on := 10, ground := Go.Ground.phase }, { on := 11, ground := Go.Ground.phase }, { on := 12, ground := Go.Ground.phase }, { on := 13, ground := Go.Ground.phase }, { on := 14, ground := Go.Ground.phase }], guard := none }) (v := ?_) rfl (by kernel_rfl) (by kernel_rfl) (by kernel_rfl) (fun _ _ _ h => h) (Or.inl ⟨by rfl, ?_⟩) (by assumption) ?_
              rotate_left
              · intro w hSw
                (try dsimp only at hSw)
                go_simp
                try with_reducible rfl
              (try simp only [Act.put, List.setIfInBounds_toArray, List.set_cons_zero, List.set_cons_succ])
              refine wpAnyH_ready (rs := [16]) (by kernel_rfl) (by simp) ?_
              refine (AllReadyH.cons (o := { dst := none, op := Go.Op.store 23 (Go.Operand.tmp 61) (Go.Operand.tmp 60), type := 0, pos := "ref.go:16", after := #[{ on := 15, ground := Go.Ground.data }, { on := 14, ground := Go.Ground.data }, { on := 14, ground := Go.Ground.chain }, { on := 0, ground := Go.Ground.phase }, { on := 1, ground := Go.Ground.phase }, { on := 2, ground := Go.Ground.phase }, { on := 3, ground := Go.Ground.phase }, { on := 4, ground := Go.Ground.phase }, { on := 5, ground := Go.Ground.phase }, { on := 6, ground := Go.Ground.phase }, { on := 7, ground := Go.Ground.phase }, { on := 8, ground := Go.Ground.phase }, { on := 9, ground := Go.Ground.phase }, { on := 10, ground := Go.Ground.phase }, { on := 11, ground := Go.Ground.phase }, { on := 12, ground := Go.Ground.phase }, { on := 13, ground := Go.Ground.phase }, { on := 14, ground := Go.Ground.phase }], guard := none }) rfl (fun K hK => ?_) AllReadyH.nil)
              go_simp

              refine hK.out _ _ ?_ (fun hHeld => ?_)
              · (try dsimp only)
                exact HN9.out.1.row.cell (i := 0) (by omega)
              clear hK K
              (try simp only [Act.put, List.setIfInBounds_toArray, List.set_cons_zero, List.set_cons_succ])
              refine wpAnyH_done (by kernel_rfl) ?_ _
              have HNz0 := HN9.out
              obtain ⟨wz, hwz⟩ : ∃ wz, wz = w9.setCell ⟨g, k, none⟩ (.slice A9 0 c9) := ⟨_, rfl⟩
              rw [← hwz] at HNz0 ⊢
              have HNz := Lib.hid HNz0
              have x0 : wz.cell? ⟨lb, 0, none⟩ = some (.slice (some ⟨g, 0, none⟩) n n) := HNz.out.1.row.cell (i := 0) (by omega)
              have x1 : wz.frozen? ⟨lb, 1, none⟩ = false := HNz.out.1.row.frozen 1
              have x2 : wz.cell? ⟨lb, 1, none⟩ = some (.int .i64 (at_ : Nat)) := HNz.out.1.row.cell (i := 1) (by omega)
              clear hwz hHeld HN9 HNz0
              clear h9c h9g h9f
              go_wp2
              go_ret2
              exact ⟨_, _, _, HNz.out.1.turn ((k + 1) % n), (Tch.of_below HB.out).trans (HNz.out.2.setCell (p := ⟨lb, 1, none⟩) (.inr (.inl rfl)) _), .inl ⟨j, x, _, hj, HEM.out, HQK.out, by first | (rw [← HKE.out]; done) | (rw [← HKE.out]; rfl), by first | (rw [← HKE.out]; done) | (rw [← HKE.out]; rfl), by first | (rw [← HKE.out]; done) | (rw [← HKE.out]; rfl)⟩⟩
          · have h1b : 1 < c := by omega
            go_wp2_with fail
            go_quiet (fail)
            simp only [hkm]
            go_wp2_with fail
            refine wp_region_held_drew (S := fun w' => w'.cell? ⟨lb, 0, none⟩ = some (.slice (some ⟨g, 0, none⟩) n n)) (by kernel_rfl) ?_ (fun hHeld => ?_)
            · exact c0
            refine wpAnyH_take (i := 0) (oi := { dst := some 46, op := Go.Op.move (Go.Operand.tmp 0), type := 61, pos := "ref.go:16", after := #[], guard := none }) (v := ?_) rfl (by kernel_rfl) (by kernel_rfl) (by kernel_rfl) (fun _ _ _ h => h) (Or.inl ⟨by rfl, ?_⟩) (by assumption) ?_
            rotate_left
            · intro w hSw
              (try dsimp only at hSw)
              go_simp
              try with_reducible rfl
            (try simp only [Act.put, List.setIfInBounds_toArray, List.set_cons_zero, List.set_cons_succ])
            refine wpAnyH_take (i := 1) (oi := { dst := some 47, op := Go.Op.nilCheck (Go.Operand.tmp 46), type := 0, pos := "ref.go:16", after := #[{ on := 0, ground := Go.Ground.data }], guard := none }) (v := ?_) rfl (by kernel_rfl) (by kernel_rfl) (by kernel_rfl) (fun _ _ _ h => h) (Or.inl ⟨by rfl, ?_⟩) (by assumption) ?_
            rotate_left
            · intro w hSw
              (try dsimp only at hSw)
              go_simp
              try with_reducible rfl
            (try simp only [Act.put, List.setIfInBounds_toArray, List.set_cons_zero, List.set_cons_succ])
            refine wpAnyH_take (i := 2) (oi := { dst := some 48, op := Go.Op.fieldAddr 64 (Go.Operand.tmp 47) 0, type := 0, pos := "ref.go:16", after := #[{ on := 1, ground := Go.Ground.data }], guard := none }) (v := ?_) rfl (by kernel_rfl) (by kernel_rfl) (by kernel_rfl) (fun _ _ _ h => h) (Or.inl ⟨by rfl, ?_⟩) (by assumption) ?_
            rotate_left
            · intro w hSw
              (try dsimp only at hSw)
              go_simp
              try with_reducible rfl
            (try simp only [Act.put, List.setIfInBounds_toArray, List.set_cons_zero, List.set_cons_succ])
            refine wpAnyH_take (i := 3) (oi := { dst := some 49, op := Go.Op.load 62 (Go.Operand.tmp 48), type := 62, pos := "ref.go:16", after := #[{ on := 2, ground := Go.Ground.data }], guard := none }) (v := ?_) rfl (by kernel_rfl) (by kernel_rfl) (by kernel_rfl) (fun _ _ _ h => h) (Or.inl ⟨by rfl, ?_⟩) (by assumption) ?_
            rotate_left
            · intro w hSw
              (try dsimp only at hSw)
              go_simp
              try with_reducible rfl
            (try simp only [Act.put, List.setIfInBounds_toArray, List.set_cons_zero, List.set_cons_succ])
            refine wpAnyH_take (i := 4) (oi := { dst := some 50, op := Go.Op.move (Go.Operand.tmp 5), type := 3, pos := "ref.go:16", after := #[], guard := none }) (v := ?_) rfl (by kernel_rfl) (by kernel_rfl) (by kernel_rfl) (fun _ _ _ h => h) (Or.inl ⟨by rfl, ?_⟩) (by assumption) ?_
            rotate_left
            · intro w hSw
              (try dsimp only at hSw)
              go_simp
              try with_reducible rfl
            (try simp only [Act.put, List.setIfInBounds_toArray, List.set_cons_zero, List.set_cons_succ])
            refine wpAnyH_take (i := 6) (oi := { dst := some 52, op := Go.Op.move (Go.Operand.tmp 0), type := 61, pos := "ref.go:16", after := #[], guard := none }) (v := ?_) rfl (by kernel_rfl) (by kernel_rfl) (by kernel_rfl) (fun _ _ _ h => h) (Or.inl ⟨by rfl, ?_⟩) (by assumption) ?_
            rotate_left
            · intro w hSw
              (try dsimp only at hSw)
              go_simp
              try with_reducible rfl
            (try simp only [Act.put, List.setIfInBounds_toArray, List.set_cons_zero, List.set_cons_succ])
            refine wpAnyH_take (i := 7) (oi := { dst := some 53, op := Go.Op.nilCheck (Go.Operand.tmp 52), type := 0, pos := "ref.go:16", after := #[{ on := 6, ground := Go.Ground.data }], guard := none }) (v := ?_) rfl (by kernel_rfl) (by kernel_rfl) (by kernel_rfl) (fun _ _ _ h => h) (Or.inl ⟨by rfl, ?_⟩) (by assumption) ?_
            rotate_left
            · intro w hSw
              (try dsimp only at hSw)
              go_simp
              try with_reducible rfl
            (try simp only [Act.put, List.setIfInBounds_toArray, List.set_cons_zero, List.set_cons_succ])
            refine wpAnyH_take (i := 8) (oi := { dst := some 54, op := Go.Op.fieldAddr 64 (Go.Operand.tmp 53) 0, type := 0, pos := "ref.go:16", after := #[{ on := 7, ground := Go.Ground.data }], guard := none }) (v := ?_) rfl (by kernel_rfl) (by kernel_rfl) (by kernel_rfl) (fun _ _ _ h => h) (Or.inl ⟨by rfl, ?_⟩) (by assumption) ?_
            rotate_left
            · intro w hSw
              (try dsimp only at hSw)
              go_simp
              try with_reducible rfl
            (try simp only [Act.put, List.setIfInBounds_toArray, List.set_cons_zero, List.set_cons_succ])
            refine wpAnyH_take (i := 9) (oi := { dst := some 55, op := Go.Op.load 62 (Go.Operand.tmp 54), type := 62, pos := "ref.go:16", after := #[{ on := 8, ground := Go.Ground.data }], guard := none }) (v := ?_) rfl (by kernel_rfl) (by kernel_rfl) (by kernel_rfl) (fun _ _ _ h => h) (Or.inl ⟨by rfl, ?_⟩) (by assumption) ?_
            rotate_left
            · intro w hSw
              (try dsimp only at hSw)
              go_simp
              try with_reducible rfl
            (try simp only [Act.put, List.setIfInBounds_toArray, List.set_cons_zero, List.set_cons_succ])
            refine wpAnyH_take (i := 10) (oi := { dst := some 56, op := Go.Op.move (Go.Operand.tmp 5), type := 3, pos := "ref.go:16", after := #[], guard := none }) (v := ?_) rfl (by kernel_rfl) (by kernel_rfl) (by kernel_rfl) (fun _ _ _ h => h) (Or.inl ⟨by rfl, ?_⟩) (by assumption) ?_
            rotate_left
            · intro w hSw
              (try dsimp only at hSw)
              go_simp
              try with_reducible rfl
            (try simp only [Act.put, List.setIfInBounds_toArray, List.set_cons_zero, List.set_cons_succ])
            refine wpAnyH_take (i := 11) (oi := { dst := some 57, op := Go.Op.indexAddr 62 (Go.Operand.tmp 55) (Go.Operand.tmp 56), type := 0, pos := "ref.go:16", after := #[{ on := 9, ground := Go.Ground.data }, { on := 10, ground := Go.Ground.data }], guard := none }) (v := ?_) rfl (by kernel_rfl) (by kernel_rfl) (by kernel_rfl) (fun _ _ _ h => h) (Or.inl ⟨by rfl, ?_⟩) (by assumption) ?_
            rotate_left
            · intro w hSw
              (try dsimp only at hSw)
              go_simp
              try with_reducible rfl
            (try simp only [Act.put, List.setIfInBounds_toArray, List.set_cons_zero, List.set_cons_succ])
            refine wpAnyH_ready (rs := [5, 12]) (by kernel_rfl) (by simp) ?_
            refine (AllReadyH.cons (o := { dst := some 51, op := Go.Op.buildSlice 23 0 #[], type := 23, pos := "ref.go:16", after := #[], guard := none }) rfl (fun K hK => ?_) (AllReadyH.cons (o := { dst := some 58, op := Go.Op.load 23 (Go.Operand.tmp 57), type := 23, pos := "ref.go:16", after := #[{ on := 11, ground := Go.Ground.data }], guard := none }) rfl (fun K hK => ?_) AllReadyH.nil))
            · go_simp

              refine hK.out _ _ ?_ (fun hHeld => ?_)
              · (try dsimp only)
                exact hal0 _ _ (by (repeat' (first | (with_reducible exact Below.refl _ _) | (with_reducible assumption) | (with_reducible refine Below.setCell ?_ ?_ _) | (with_reducible refine Below.alloc ?_ ?_ _) | (with_reducible refine below_drewN ?_ _) | (with_reducible refine Below.drew ?_) | go_size)))
              clear hK K
              (try simp only [Act.put, List.setIfInBounds_toArray, List.set_cons_zero, List.set_cons_succ])
              refine wpAnyH_ready (rs := [12]) (by kernel_rfl) (by simp) ?_
              refine (AllReadyH.cons (o := { dst := some 58, op := Go.Op.load 23 (Go.Operand.tmp 57), type := 23, pos := "ref.go:16", after := #[{ on := 11, ground := Go.Ground.data }], guard := none }) rfl (fun K hK => ?_) AllReadyH.nil)
              go_simp
              (try (rw [hal1 _ _ (by (repeat' (first | (with_reducible exact Below.refl _ _) | (with_reducible assumption) | (with_reducible refine Below.setCell ?_ ?_ _) | (with_reducible refine Below.alloc ?_ ?_ _) | (with_reducible refine below_drewN ?_ _) | (with_reducible refine Below.drew ?_) | go_size)))]; go_simp))
              refine hK.out _ _ ?_ (fun hHeld => ?_)
              · (try dsimp only)
                exact hHeld
              clear hK K
              (try simp only [Act.put, List.setIfInBounds_toArray, List.set_cons_zero, List.set_cons_succ])
              refine wpAnyH_take (i := 13) (oi := { dst := some 59, op := Go.Op.slice 23 (Go.Operand.tmp 58) (some (Go.Operand.const (Go.Value.int Go.IntKind.i64 1))) none none, type := 23, pos := "ref.go:16", after := #[{ on := 12, ground := Go.Ground.data }], guard := none }) (v := ?_) rfl (by kernel_rfl) (by kernel_rfl) (by kernel_rfl) (fun _ _ _ h => h) (Or.inl ⟨by rfl, ?_⟩) (by assumption) ?_
              rotate_left
              · intro w hSw
                (try dsimp only at hSw)
                go_simp
                try with_reducible rfl
              (try simp only [Act.put, List.setIfInBounds_toArray, List.set_cons_zero, List.set_cons_succ])
              refine wpAnyH_ready (rs := [14]) (by kernel_rfl) (by simp) ?_
              refine (AllReadyH.cons (o := { dst := some 60, op := Go.Op.call { callee := Go.Callee.builtin Go.Builtin.append, args := #[Go.Operand.tmp 51, Go.Operand.tmp 59], argTypes := #[23, 23] }, type := 23, pos := "ref.go:16", after := #[{ on := 5, ground := Go.Ground.data }, { on := 13, ground := Go.Ground.data }], guard := none }) rfl (fun K hK => ?_) AllReadyH.nil)
              refine step_app _ (by rfl) stU64s _ _ (by rfl) (lb + 1) (.slice (some ⟨wr.heap.size, 0, none⟩) 0 0) 0 [] (by rfl) (own_empty_at (by simp) (by have := HLW.out; simp; omega)) _ _ 0 (kv .u64 ([] : List Int)) (by rfl) (HLS _ _ _ (by omega)) (kv_ones _ _) (by omega) (by have := HLW.out; simp; omega) ?_
              intro v9 w9 hown9 hgr9 hat9 hbel9
              obtain ⟨A9, c9, hv9, _, _⟩ := (Sl.of_own hown9).form
              rw [Nat.zero_add] at hv9
              subst hv9
              have HN9 := Lib.hid (HLA9.out _ (by (repeat' (first | (with_reducible exact Below.refl _ _) | (with_reducible assumption) | (with_reducible refine Below.setCell ?_ ?_ _) | (with_reducible refine Below.alloc ?_ ?_ _) | (with_reducible refine below_drewN ?_ _) | (with_reducible refine Below.drew ?_) | go_size))) (by simp) w9 _ (by have := hown9; simp only [Nat.zero_add, List.nil_append] at this ⊢; rw [HN.out]; exact this) hgr9 hat9)
              have h9c : w9.cell? ⟨lb, 0, none⟩ = some (.slice (some ⟨g, 0, none⟩) n n) := (hbel9.cell (p := ⟨lb, 0, none⟩) (by show lb < lb + 1; omega)).trans (hal0 _ _ (by (repeat' (first | (with_reducible exact Below.refl _ _) | (with_reducible assumption) | (with_reducible refine Below.setCell ?_ ?_ _) | (with_reducible refine Below.alloc ?_ ?_ _) | (with_reducible refine below_drewN ?_ _) | (with_reducible refine Below.drew ?_) | go_size))))
              have h9f : w9.frozen? ⟨g, k, none⟩ = false := (hbel9.frozen (p := ⟨g, k, none⟩) (by have := HGL.out; show g < lb + 1; omega)).trans (hal2 _ _ (by (repeat' (first | (with_reducible exact Below.refl _ _) | (with_reducible assumption) | (with_reducible refine Below.setCell ?_ ?_ _) | (with_reducible refine Below.alloc ?_ ?_ _) | (with_reducible refine below_drewN ?_ _) | (with_reducible refine Below.drew ?_) | go_size))))
              have h9g := (hbel9.cell (p := ⟨g, k, none⟩) (by have := HGL.out; show g < lb + 1; omega)).trans (hal1 _ _ (by (repeat' (first | (with_reducible exact Below.refl _ _) | (with_reducible assumption) | (with_reducible refine Below.setCell ?_ ?_ _) | (with_reducible refine Below.alloc ?_ ?_ _) | (with_reducible refine below_drewN ?_ _) | (with_reducible refine Below.drew ?_) | go_size))))
              clear hown9 hgr9 hat9 hbel9
              refine hK.out _ _ ?_ (fun hHeld => ?_)
              · (try dsimp only)
                exact h9c
              clear hK K
              (try simp only [Act.put, List.setIfInBounds_toArray, List.set_cons_zero, List.set_cons_succ])
              refine wpAnyH_take (i := 15) (oi := { dst := some 61, op := Go.Op.indexAddr 62 (Go.Operand.tmp 49) (Go.Operand.tmp 50), type := 0, pos := "ref.go:16", after := #[{ on := 3, ground := Go.Ground.data }, { on := 4, ground := Go.Ground.data }, { on := 0, ground := Go.Ground.phase }, { on := 1, ground := Go.Ground.phase }, { on := 2, ground := Go.Ground.phase }, { on := 3, ground := Go.Ground.phase }, { on := 4, ground := Go.Ground.phase }, { on := 5, ground := Go.Ground.phase }, { on := 6, ground := Go.Ground.phase }, { on := 7, ground := Go.Ground.phase }, { on := 8, ground := Go.Ground.phase }, { on := 9, ground := Go.Ground.phase }, { on := 10, ground := Go.Ground.phase }, { on := 11, ground := Go.Ground.phase }, { on := 12, ground := Go.Ground.phase }, { on := 13, ground := Go.Ground.phase }, { on := 14, ground := Go.Ground.phase }], guard := none }) (v := ?_) rfl (by kernel_rfl) (by kernel_rfl) (by kernel_rfl) (fun _ _ _ h => h) (Or.inl ⟨by rfl, ?_⟩) (by assumption) ?_
              rotate_left
              · intro w hSw
                (try dsimp only at hSw)
                go_simp
                try with_reducible rfl
              (try simp only [Act.put, List.setIfInBounds_toArray, List.set_cons_zero, List.set_cons_succ])
              refine wpAnyH_ready (rs := [16]) (by kernel_rfl) (by simp) ?_
              refine (AllReadyH.cons (o := { dst := none, op := Go.Op.store 23 (Go.Operand.tmp 61) (Go.Operand.tmp 60), type := 0, pos := "ref.go:16", after := #[{ on := 15, ground := Go.Ground.data }, { on := 14, ground := Go.Ground.data }, { on := 14, ground := Go.Ground.chain }, { on := 0, ground := Go.Ground.phase }, { on := 1, ground := Go.Ground.phase }, { on := 2, ground := Go.Ground.phase }, { on := 3, ground := Go.Ground.phase }, { on := 4, ground := Go.Ground.phase }, { on := 5, ground := Go.Ground.phase }, { on := 6, ground := Go.Ground.phase }, { on := 7, ground := Go.Ground.phase }, { on := 8, ground := Go.Ground.phase }, { on := 9, ground := Go.Ground.phase }, { on := 10, ground := Go.Ground.phase }, { on := 11, ground := Go.Ground.phase }, { on := 12, ground := Go.Ground.phase }, { on := 13, ground := Go.Ground.phase }, { on := 14, ground := Go.Ground.phase }], guard := none }) rfl (fun K hK => ?_) AllReadyH.nil)
              go_simp

              refine hK.out _ _ ?_ (fun hHeld => ?_)
              · (try dsimp only)
                exact HN9.out.1.row.cell (i := 0) (by omega)
              clear hK K
              (try simp only [Act.put, List.setIfInBounds_toArray, List.set_cons_zero, List.set_cons_succ])
              refine wpAnyH_done (by kernel_rfl) ?_ _
              have HNz0 := HN9.out
              obtain ⟨wz, hwz⟩ : ∃ wz, wz = w9.setCell ⟨g, k, none⟩ (.slice A9 0 c9) := ⟨_, rfl⟩
              rw [← hwz] at HNz0 ⊢
              have HNz := Lib.hid HNz0
              have x0 : wz.cell? ⟨lb, 0, none⟩ = some (.slice (some ⟨g, 0, none⟩) n n) := HNz.out.1.row.cell (i := 0) (by omega)
              have x1 : wz.frozen? ⟨lb, 1, none⟩ = false := HNz.out.1.row.frozen 1
              have x2 : wz.cell? ⟨lb, 1, none⟩ = some (.int .i64 (at_ : Nat)) := HNz.out.1.row.cell (i := 1) (by omega)
              clear hwz hHeld HN9 HNz0
              clear h9c h9g h9f
              go_wp2
              go_ret2
              exact ⟨_, _, _, HNz.out.1.turn ((k + 1) % n), (Tch.of_below HB.out).trans (HNz.out.2.setCell (p := ⟨lb, 1, none⟩) (.inr (.inl rfl)) _), .inl ⟨j, x, _, hj, HEM.out, HQK.out, by first | (rw [← HKE.out]; done) | (rw [← HKE.out]; rfl), by first | (rw [← HKE.out]; done) | (rw [← HKE.out]; rfl), by first | (rw [← HKE.out]; done) | (rw [← HKE.out]; rfl)⟩⟩
            · go_simp
              (try (rw [hal1 _ _ (by (repeat' (first | (with_reducible exact Below.refl _ _) | (with_reducible assumption) | (with_reducible refine Below.setCell ?_ ?_ _) | (with_reducible refine Below.alloc ?_ ?_ _) | (with_reducible refine below_drewN ?_ _) | (with_reducible refine Below.drew ?_) | go_size)))]; go_simp))
              refine hK.out _ _ ?_ (fun hHeld => ?_)
              · (try dsimp only)
                exact hHeld
              clear hK K
              (try simp only [Act.put, List.setIfInBounds_toArray, List.set_cons_zero, List.set_cons_succ])
              refine wpAnyH_take (i := 13) (oi := { dst := some 59, op := Go.Op.slice 23 (Go.Operand.tmp 58) (some (Go.Operand.const (Go.Value.int Go.IntKind.i64 1))) none none, type := 23, pos := "ref.go:16", after := #[{ on := 12, ground := Go.Ground.data }], guard := none }) (v := ?_) rfl (by kernel_rfl) (by kernel_rfl) (by kernel_rfl) (fun _ _ _ h => h) (Or.inl ⟨by rfl, ?_⟩) (by assumption) ?_
              rotate_left
              · intro w hSw
                (try dsimp only at hSw)
                go_simp
                try with_reducible rfl
              (try simp only [Act.put, List.setIfInBounds_toArray, List.set_cons_zero, List.set_cons_succ])
              refine wpAnyH_ready (rs := [5]) (by kernel_rfl) (by simp) ?_
              refine (AllReadyH.cons (o := { dst := some 51, op := Go.Op.buildSlice 23 0 #[], type := 23, pos := "ref.go:16", after := #[], guard := none }) rfl (fun K hK => ?_) AllReadyH.nil)
              go_simp

              refine hK.out _ _ ?_ (fun hHeld => ?_)
              · (try dsimp only)
                exact hal0 _ _ (by (repeat' (first | (with_reducible exact Below.refl _ _) | (with_reducible assumption) | (with_reducible refine Below.setCell ?_ ?_ _) | (with_reducible refine Below.alloc ?_ ?_ _) | (with_reducible refine below_drewN ?_ _) | (with_reducible refine Below.drew ?_) | go_size)))
              clear hK K
              (try simp only [Act.put, List.setIfInBounds_toArray, List.set_cons_zero, List.set_cons_succ])
              refine wpAnyH_ready (rs := [14]) (by kernel_rfl) (by simp) ?_
              refine (AllReadyH.cons (o := { dst := some 60, op := Go.Op.call { callee := Go.Callee.builtin Go.Builtin.append, args := #[Go.Operand.tmp 51, Go.Operand.tmp 59], argTypes := #[23, 23] }, type := 23, pos := "ref.go:16", after := #[{ on := 5, ground := Go.Ground.data }, { on := 13, ground := Go.Ground.data }], guard := none }) rfl (fun K hK => ?_) AllReadyH.nil)
              refine step_app _ (by rfl) stU64s _ _ (by rfl) (lb + 1) (.slice (some ⟨wr.heap.size, 0, none⟩) 0 0) 0 [] (by rfl) (own_empty_at (by simp) (by have := HLW.out; simp; omega)) _ _ 0 (kv .u64 ([] : List Int)) (by rfl) (HLS _ _ _ (by omega)) (kv_ones _ _) (by omega) (by have := HLW.out; simp; omega) ?_
              intro v9 w9 hown9 hgr9 hat9 hbel9
              obtain ⟨A9, c9, hv9, _, _⟩ := (Sl.of_own hown9).form
              rw [Nat.zero_add] at hv9
              subst hv9
              have HN9 := Lib.hid (HLA9.out _ (by (repeat' (first | (with_reducible exact Below.refl _ _) | (with_reducible assumption) | (with_reducible refine Below.setCell ?_ ?_ _) | (with_reducible refine Below.alloc ?_ ?_ _) | (with_reducible refine below_drewN ?_ _) | (with_reducible refine Below.drew ?_) | go_size))) (by simp) w9 _ (by have := hown9; simp only [Nat.zero_add, List.nil_append] at this ⊢; rw [HN.out]; exact this) hgr9 hat9)
              have h9c : w9.cell? ⟨lb, 0, none⟩ = some (.slice (some ⟨g, 0, none⟩) n n) := (hbel9.cell (p := ⟨lb, 0, none⟩) (by show lb < lb + 1; omega)).trans (hal0 _ _ (by (repeat' (first | (with_reducible exact Below.refl _ _) | (with_reducible assumption) | (with_reducible refine Below.setCell ?_ ?_ _) | (with_reducible refine Below.alloc ?_ ?_ _) | (with_reducible refine below_drewN ?_ _) | (with_reducible refine Below.drew ?_) | go_size))))
              have h9f : w9.frozen? ⟨g, k, none⟩ = false := (hbel9.frozen (p := ⟨g, k, none⟩) (by have := HGL.out; show g < lb + 1; omega)).trans (hal2 _ _ (by (repeat' (first | (with_reducible exact Below.refl _ _) | (with_reducible assumption) | (with_reducible refine Below.setCell ?_ ?_ _) | (with_reducible refine Below.alloc ?_ ?_ _) | (with_reducible refine below_drewN ?_ _) | (with_reducible refine Below.drew ?_) | go_size))))
              have h9g := (hbel9.cell (p := ⟨g, k, none⟩) (by have := HGL.out; show g < lb + 1; omega)).trans (hal1 _ _ (by (repeat' (first | (with_reducible exact Below.refl _ _) | (with_reducible assumption) | (with_reducible refine Below.setCell ?_ ?_ _) | (with_reducible refine Below.alloc ?_ ?_ _) | (with_reducible refine below_drewN ?_ _) | (with_reducible refine Below.drew ?_) | go_size))))
              clear hown9 hgr9 hat9 hbel9
              refine hK.out _ _ ?_ (fun hHeld => ?_)
              · (try dsimp only)
                exact h9c
              clear hK K
              (try simp only [Act.put, List.setIfInBounds_toArray, List.set_cons_zero, List.set_cons_succ])
              refine wpAnyH_take (i := 15) (oi := { dst := some 61, op := Go.Op.indexAddr 62 (Go.Operand.tmp 49) (Go.Operand.tmp 50), type := 0, pos := "ref.go:16", after := #[{ on := 3, ground := Go.Ground.data }, { on := 4, ground := Go.Ground.data }, { on := 0, ground := Go.Ground.phase }, { on := 1, ground := Go.Ground.phase }, { on := 2, ground := Go.Ground.phase }, { on := 3, ground := Go.Ground.phase }, { on := 4, ground := Go.Ground.phase }, { on := 5, ground := Go.Ground.phase }, { on := 6, ground := Go.Ground.phase }, { on := 7, ground := Go.Ground.phase }, { on := 8, ground := Go.Ground.phase }, { on := 9, ground := Go.Ground.phase }, { on := 10, ground := Go.Ground.phase }, { on := 11, ground := Go.Ground.phase }, { on := 12, ground := Go.Ground.phase }, { on := 13, ground := Go.Ground.phase }, { on := 14, ground := Go.Ground.phase }], guard := none }) (v := ?_) rfl (by kernel_rfl) (by kernel_rfl) (by kernel_rfl) (fun _ _ _ h => h) (Or.inl ⟨by rfl, ?_⟩) (by assumption) ?_
              rotate_left
              · intro w hSw
                (try dsimp only at hSw)
                go_simp
                try with_reducible rfl
              (try simp only [Act.put, List.setIfInBounds_toArray, List.set_cons_zero, List.set_cons_succ])
              refine wpAnyH_ready (rs := [16]) (by kernel_rfl) (by simp) ?_
              refine (AllReadyH.cons (o := { dst := none, op := Go.Op.store 23 (Go.Operand.tmp 61) (Go.Operand.tmp 60), type := 0, pos := "ref.go:16", after := #[{ on := 15, ground := Go.Ground.data }, { on := 14, ground := Go.Ground.data }, { on := 14, ground := Go.Ground.chain }, { on := 0, ground := Go.Ground.phase }, { on := 1, ground := Go.Ground.phase }, { on := 2, ground := Go.Ground.phase }, { on := 3, ground := Go.Ground.phase }, { on := 4, ground := Go.Ground.phase }, { on := 5, ground := Go.Ground.phase }, { on := 6, ground := Go.Ground.phase }, { on := 7, ground := Go.Ground.phase }, { on := 8, ground := Go.Ground.phase }, { on := 9, ground := Go.Ground.phase }, { on := 10, ground := Go.Ground.phase }, { on := 11, ground := Go.Ground.phase }, { on := 12, ground := Go.Ground.phase }, { on := 13, ground := Go.Ground.phase }, { on := 14, ground := Go.Ground.phase }], guard := none }) rfl (fun K hK => ?_) AllReadyH.nil)
              go_simp

              refine hK.out _ _ ?_ (fun hHeld => ?_)
              · (try dsimp only)
                exact HN9.out.1.row.cell (i := 0) (by omega)
              clear hK K
              (try simp only [Act.put, List.setIfInBounds_toArray, List.set_cons_zero, List.set_cons_succ])
              refine wpAnyH_done (by kernel_rfl) ?_ _
              have HNz0 := HN9.out
              obtain ⟨wz, hwz⟩ : ∃ wz, wz = w9.setCell ⟨g, k, none⟩ (.slice A9 0 c9) := ⟨_, rfl⟩
              rw [← hwz] at HNz0 ⊢
              have HNz := Lib.hid HNz0
              have x0 : wz.cell? ⟨lb, 0, none⟩ = some (.slice (some ⟨g, 0, none⟩) n n) := HNz.out.1.row.cell (i := 0) (by omega)
              have x1 : wz.frozen? ⟨lb, 1, none⟩ = false := HNz.out.1.row.frozen 1
              have x2 : wz.cell? ⟨lb, 1, none⟩ = some (.int .i64 (at_ : Nat)) := HNz.out.1.row.cell (i := 1) (by omega)
              clear hwz hHeld HN9 HNz0
              clear h9c h9g h9f
              go_wp2
              go_ret2
              exact ⟨_, _, _, HNz.out.1.turn ((k + 1) % n), (Tch.of_below HB.out).trans (HNz.out.2.setCell (p := ⟨lb, 1, none⟩) (.inr (.inl rfl)) _), .inl ⟨j, x, _, hj, HEM.out, HQK.out, by first | (rw [← HKE.out]; done) | (rw [← HKE.out]; rfl), by first | (rw [← HKE.out]; done) | (rw [← HKE.out]; rfl), by first | (rw [← HKE.out]; done) | (rw [← HKE.out]; rfl)⟩⟩
        · have h1b : 1 < c := by omega
          have h1 : ¬ c = 1 := by omega
          have h1le : (1 : Int) ≤ (N : Int) + 1 := by omega
          go_wp2_with fail
          go_quiet (fail)
          simp only [hkm]
          go_wp2_with fail
          refine wp_region_held_drew (S := fun w' => w'.cell? ⟨lb, 0, none⟩ = some (.slice (some ⟨g, 0, none⟩) n n)) (by kernel_rfl) ?_ (fun hHeld => ?_)
          · exact c0
          refine wpAnyH_take (i := 0) (oi := { dst := some 46, op := Go.Op.move (Go.Operand.tmp 0), type := 61, pos := "ref.go:16", after := #[], guard := none }) (v := ?_) rfl (by kernel_rfl) (by kernel_rfl) (by kernel_rfl) (fun _ _ _ h => h) (Or.inl ⟨by rfl, ?_⟩) (by assumption) ?_
          rotate_left
          · intro w hSw
            (try dsimp only at hSw)
            go_simp
            try with_reducible rfl
          (try simp only [Act.put, List.setIfInBounds_toArray, List.set_cons_zero, List.set_cons_succ])
          refine wpAnyH_take (i := 1) (oi := { dst := some 47, op := Go.Op.nilCheck (Go.Operand.tmp 46), type := 0, pos := "ref.go:16", after := #[{ on := 0, ground := Go.Ground.data }], guard := none }) (v := ?_) rfl (by kernel_rfl) (by kernel_rfl) (by kernel_rfl) (fun _ _ _ h => h) (Or.inl ⟨by rfl, ?_⟩) (by assumption) ?_
          rotate_left
          · intro w hSw
            (try dsimp only at hSw)
            go_simp
            try with_reducible rfl
          (try simp only [Act.put, List.setIfInBounds_toArray, List.set_cons_zero, List.set_cons_succ])
          refine wpAnyH_take (i := 2) (oi := { dst := some 48, op := Go.Op.fieldAddr 64 (Go.Operand.tmp 47) 0, type := 0, pos := "ref.go:16", after := #[{ on := 1, ground := Go.Ground.data }], guard := none }) (v := ?_) rfl (by kernel_rfl) (by kernel_rfl) (by kernel_rfl) (fun _ _ _ h => h) (Or.inl ⟨by rfl, ?_⟩) (by assumption) ?_
          rotate_left
          · intro w hSw
            (try dsimp only at hSw)
            go_simp
            try with_reducible rfl
          (try simp only [Act.put, List.setIfInBounds_toArray, List.set_cons_zero, List.set_cons_succ])
          refine wpAnyH_take (i := 3) (oi := { dst := some 49, op := Go.Op.load 62 (Go.Operand.tmp 48), type := 62, pos := "ref.go:16", after := #[{ on := 2, ground := Go.Ground.data }], guard := none }) (v := ?_) rfl (by kernel_rfl) (by kernel_rfl) (by kernel_rfl) (fun _ _ _ h => h) (Or.inl ⟨by rfl, ?_⟩) (by assumption) ?_
          rotate_left
          · intro w hSw
            (try dsimp only at hSw)
            go_simp
            try with_reducible rfl
          (try simp only [Act.put, List.setIfInBounds_toArray, List.set_cons_zero, List.set_cons_succ])
          refine wpAnyH_take (i := 4) (oi := { dst := some 50, op := Go.Op.move (Go.Operand.tmp 5), type := 3, pos := "ref.go:16", after := #[], guard := none }) (v := ?_) rfl (by kernel_rfl) (by kernel_rfl) (by kernel_rfl) (fun _ _ _ h => h) (Or.inl ⟨by rfl, ?_⟩) (by assumption) ?_
          rotate_left
          · intro w hSw
            (try dsimp only at hSw)
            go_simp
            try with_reducible rfl
          (try simp only [Act.put, List.setIfInBounds_toArray, List.set_cons_zero, List.set_cons_succ])
          refine wpAnyH_take (i := 6) (oi := { dst := some 52, op := Go.Op.move (Go.Operand.tmp 0), type := 61, pos := "ref.go:16", after := #[], guard := none }) (v := ?_) rfl (by kernel_rfl) (by kernel_rfl) (by kernel_rfl) (fun _ _ _ h => h) (Or.inl ⟨by rfl, ?_⟩) (by assumption) ?_
          rotate_left
          · intro w hSw
            (try dsimp only at hSw)
            go_simp
            try with_reducible rfl
          (try simp only [Act.put, List.setIfInBounds_toArray, List.set_cons_zero, List.set_cons_succ])
          refine wpAnyH_take (i := 7) (oi := { dst := some 53, op := Go.Op.nilCheck (Go.Operand.tmp 52), type := 0, pos := "ref.go:16", after := #[{ on := 6, ground := Go.Ground.data }], guard := none }) (v := ?_) rfl (by kernel_rfl) (by kernel_rfl) (by kernel_rfl) (fun _ _ _ h => h) (Or.inl ⟨by rfl, ?_⟩) (by assumption) ?_
          rotate_left
          · intro w hSw
            (try dsimp only at hSw)
            go_simp
            try with_reducible rfl
          (try simp only [Act.put, List.setIfInBounds_toArray, List.set_cons_zero, List.set_cons_succ])
          refine wpAnyH_take (i := 8) (oi := { dst := some 54, op := Go.Op.fieldAddr 64 (Go.Operand.tmp 53) 0, type := 0, pos := "ref.go:16", after := #[{ on := 7, ground := Go.Ground.data }], guard := none }) (v := ?_) rfl (by kernel_rfl) (by kernel_rfl) (by kernel_rfl) (fun _ _ _ h => h) (Or.inl ⟨by rfl, ?_⟩) (by assumption) ?_
          rotate_left
          · intro w hSw
            (try dsimp only at hSw)
            go_simp
            try with_reducible rfl
          (try simp only [Act.put, List.setIfInBounds_toArray, List.set_cons_zero, List.set_cons_succ])
          refine wpAnyH_take (i := 9) (oi := { dst := some 55, op := Go.Op.load 62 (Go.Operand.tmp 54), type := 62, pos := "ref.go:16", after := #[{ on := 8, ground := Go.Ground.data }], guard := none }) (v := ?_) rfl (by kernel_rfl) (by kernel_rfl) (by kernel_rfl) (fun _ _ _ h => h) (Or.inl ⟨by rfl, ?_⟩) (by assumption) ?_
          rotate_left
          · intro w hSw
            (try dsimp only at hSw)
            go_simp
            try with_reducible rfl
          (try simp only [Act.put, List.setIfInBounds_toArray, List.set_cons_zero, List.set_cons_succ])
          refine wpAnyH_take (i := 10) (oi := { dst := some 56, op := Go.Op.move (Go.Operand.tmp 5), type := 3, pos := "ref.go:16", after := #[], guard := none }) (v := ?_) rfl (by kernel_rfl) (by kernel_rfl) (by kernel_rfl) (fun _ _ _ h => h) (Or.inl ⟨by rfl, ?_⟩) (by assumption) ?_
          rotate_left
          · intro w hSw
            (try dsimp only at hSw)
            go_simp
            try with_reducible rfl
          (try simp only [Act.put, List.setIfInBounds_toArray, List.set_cons_zero, List.set_cons_succ])
          refine wpAnyH_take (i := 11) (oi := { dst := some 57, op := Go.Op.indexAddr 62 (Go.Operand.tmp 55) (Go.Operand.tmp 56), type := 0, pos := "ref.go:16", after := #[{ on := 9, ground := Go.Ground.data }, { on := 10, ground := Go.Ground.data }], guard := none }) (v := ?_) rfl (by kernel_rfl) (by kernel_rfl) (by kernel_rfl) (fun _ _ _ h => h) (Or.inl ⟨by rfl, ?_⟩) (by assumption) ?_
          rotate_left
          · intro w hSw
            (try dsimp only at hSw)
            go_simp
            try with_reducible rfl
          (try simp only [Act.put, List.setIfInBounds_toArray, List.set_cons_zero, List.set_cons_succ])
          refine wpAnyH_ready (rs := [5, 12]) (by kernel_rfl) (by simp) ?_
          refine (AllReadyH.cons (o := { dst := some 51, op := Go.Op.buildSlice 23 0 #[], type := 23, pos := "ref.go:16", after := #[], guard := none }) rfl (fun K hK => ?_) (AllReadyH.cons (o := { dst := some 58, op := Go.Op.load 23 (Go.Operand.tmp 57), type := 23, pos := "ref.go:16", after := #[{ on := 11, ground := Go.Ground.data }], guard := none }) rfl (fun K hK => ?_) AllReadyH.nil))
          · go_simp

            refine hK.out _ _ ?_ (fun hHeld => ?_)
            · (try dsimp only)
              exact hal0 _ _ (by (repeat' (first | (with_reducible exact Below.refl _ _) | (with_reducible assumption) | (with_reducible refine Below.setCell ?_ ?_ _) | (with_reducible refine Below.alloc ?_ ?_ _) | (with_reducible refine below_drewN ?_ _) | (with_reducible refine Below.drew ?_) | go_size)))
            clear hK K
            (try simp only [Act.put, List.setIfInBounds_toArray, List.set_cons_zero, List.set_cons_succ])
            refine wpAnyH_ready (rs := [12]) (by kernel_rfl) (by simp) ?_
            refine (AllReadyH.cons (o := { dst := some 58, op := Go.Op.load 23 (Go.Operand.tmp 57), type := 23, pos := "ref.go:16", after := #[{ on := 11, ground := Go.Ground.data }], guard := none }) rfl (fun K hK => ?_) AllReadyH.nil)
            go_simp
            (try (rw [hal1 _ _ (by (repeat' (first | (with_reducible exact Below.refl _ _) | (with_reducible assumption) | (with_reducible refine Below.setCell ?_ ?_ _) | (with_reducible refine Below.alloc ?_ ?_ _) | (with_reducible refine below_drewN ?_ _) | (with_reducible refine Below.drew ?_) | go_size)))]; go_simp))
            refine hK.out _ _ ?_ (fun hHeld => ?_)
            · (try dsimp only)
              exact hHeld
            clear hK K
            (try simp only [Act.put, List.setIfInBounds_toArray, List.set_cons_zero, List.set_cons_succ])
            refine wpAnyH_take (i := 13) (oi := { dst := some 59, op := Go.Op.slice 23 (Go.Operand.tmp 58) (some (Go.Operand.const (Go.Value.int Go.IntKind.i64 1))) none none, type := 23, pos := "ref.go:16", after := #[{ on := 12, ground := Go.Ground.data }], guard := none }) (v := ?_) rfl (by kernel_rfl) (by kernel_rfl) (by kernel_rfl) (fun _ _ _ h => h) (Or.inl ⟨by rfl, ?_⟩) (by assumption) ?_
            rotate_left
            · intro w hSw
              (try dsimp only at hSw)
              go_simp
              try with_reducible rfl
            (try simp only [Act.put, List.setIfInBounds_toArray, List.set_cons_zero, List.set_cons_succ])
            refine wpAnyH_ready (rs := [14]) (by kernel_rfl) (by simp) ?_
            refine (AllReadyH.cons (o := { dst := some 60, op := Go.Op.call { callee := Go.Callee.builtin Go.Builtin.append, args := #[Go.Operand.tmp 51, Go.Operand.tmp 59], argTypes := #[23, 23] }, type := 23, pos := "ref.go:16", after := #[{ on := 5, ground := Go.Ground.data }, { on := 13, ground := Go.Ground.data }], guard := none }) rfl (fun K hK => ?_) AllReadyH.nil)
            refine step_app _ (by rfl) stU64s _ _ (by rfl) (lb + 1) (.slice (some ⟨wr.heap.size, 0, none⟩) 0 0) 0 [] (by rfl) (own_empty_at (by simp) (by have := HLW.out; simp; omega)) _ _ N (kv .u64 r) (by rfl) ((HSL.out).below (by (repeat' (first | (with_reducible exact Below.refl _ _) | (with_reducible assumption) | (with_reducible refine Below.setCell ?_ ?_ _) | (with_reducible refine Below.alloc ?_ ?_ _) | (with_reducible refine below_drewN ?_ _) | (with_reducible refine Below.drew ?_) | go_size)))) (kv_ones _ _) (by omega) (by have := HLW.out; simp; omega) ?_
            intro v9 w9 hown9 hgr9 hat9 hbel9
            obtain ⟨A9, c9, hv9, _, _⟩ := (Sl.of_own hown9).form
            rw [Nat.zero_add] at hv9
            subst hv9
            have HN9 := Lib.hid (HLA9.out _ (by (repeat' (first | (with_reducible exact Below.refl _ _) | (with_reducible assumption) | (with_reducible refine Below.setCell ?_ ?_ _) | (with_reducible refine Below.alloc ?_ ?_ _) | (with_reducible refine below_drewN ?_ _) | (with_reducible refine Below.drew ?_) | go_size))) (by simp) w9 _ (by have := hown9; simp only [Nat.zero_add, List.nil_append] at this ⊢; rw [HN.out]; exact this) hgr9 hat9)
            have h9c : w9.cell? ⟨lb, 0, none⟩ = some (.slice (some ⟨g, 0, none⟩) n n) := (hbel9.cell (p := ⟨lb, 0, none⟩) (by show lb < lb + 1; omega)).trans (hal0 _ _ (by (repeat' (first | (with_reducible exact Below.refl _ _) | (with_reducible assumption) | (with_reducible refine Below.setCell ?_ ?_ _) | (with_reducible refine Below.alloc ?_ ?_ _) | (with_reducible refine below_drewN ?_ _) | (with_reducible refine Below.drew ?_) | go_size))))
            have h9f : w9.frozen? ⟨g, k, none⟩ = false := (hbel9.frozen (p := ⟨g, k, none⟩) (by have := HGL.out; show g < lb + 1; omega)).trans (hal2 _ _ (by (repeat' (first | (with_reducible exact Below.refl _ _) | (with_reducible assumption) | (with_reducible refine Below.setCell ?_ ?_ _) | (with_reducible refine Below.alloc ?_ ?_ _) | (with_reducible refine below_drewN ?_ _) | (with_reducible refine Below.drew ?_) | go_size))))
            have h9g := (hbel9.cell (p := ⟨g, k, none⟩) (by have := HGL.out; show g < lb + 1; omega)).trans (hal1 _ _ (by (repeat' (first | (with_reducible exact Below.refl _ _) | (with_reducible assumption) | (with_reducible refine Below.setCell ?_ ?_ _) | (with_reducible refine Below.alloc ?_ ?_ _) | (with_reducible refine below_drewN ?_ _) | (with_reducible refine Below.drew ?_) | go_size))))
            clear hown9 hgr9 hat9 hbel9
            refine hK.out _ _ ?_ (fun hHeld => ?_)
            · (try dsimp only)
              exact h9c
            clear hK K
            (try simp only [Act.put, List.setIfInBounds_toArray, List.set_cons_zero, List.set_cons_succ])
            refine wpAnyH_take (i := 15) (oi := { dst := some 61, op := Go.Op.indexAddr 62 (Go.Operand.tmp 49) (Go.Operand.tmp 50), type := 0, pos := "ref.go:16", after := #[{ on := 3, ground := Go.Ground.data }, { on := 4, ground := Go.Ground.data }, { on := 0, ground := Go.Ground.phase }, { on := 1, ground := Go.Ground.phase }, { on := 2, ground := Go.Ground.phase }, { on := 3, ground := Go.Ground.phase }, { on := 4, ground := Go.Ground.phase }, { on := 5, ground := Go.Ground.phase }, { on := 6, ground := Go.Ground.phase }, { on := 7, ground := Go.Ground.phase }, { on := 8, ground := Go.Ground.phase }, { on := 9, ground := Go.Ground.phase }, { on := 10, ground := Go.Ground.phase }, { on := 11, ground := Go.Ground.phase }, { on := 12, ground := Go.Ground.phase }, { on := 13, ground := Go.Ground.phase }, { on := 14, ground := Go.Ground.phase }], guard := none }) (v := ?_) rfl (by kernel_rfl) (by kernel_rfl) (by kernel_rfl) (fun _ _ _ h => h) (Or.inl ⟨by rfl, ?_⟩) (by assumption) ?_
            rotate_left
            · intro w hSw
              (try dsimp only at hSw)
              go_simp
              try with_reducible rfl
            (try simp only [Act.put, List.setIfInBounds_toArray, List.set_cons_zero, List.set_cons_succ])
            refine wpAnyH_ready (rs := [16]) (by kernel_rfl) (by simp) ?_
            refine (AllReadyH.cons (o := { dst := none, op := Go.Op.store 23 (Go.Operand.tmp 61) (Go.Operand.tmp 60), type := 0, pos := "ref.go:16", after := #[{ on := 15, ground := Go.Ground.data }, { on := 14, ground := Go.Ground.data }, { on := 14, ground := Go.Ground.chain }, { on := 0, ground := Go.Ground.phase }, { on := 1, ground := Go.Ground.phase }, { on := 2, ground := Go.Ground.phase }, { on := 3, ground := Go.Ground.phase }, { on := 4, ground := Go.Ground.phase }, { on := 5, ground := Go.Ground.phase }, { on := 6, ground := Go.Ground.phase }, { on := 7, ground := Go.Ground.phase }, { on := 8, ground := Go.Ground.phase }, { on := 9, ground := Go.Ground.phase }, { on := 10, ground := Go.Ground.phase }, { on := 11, ground := Go.Ground.phase }, { on := 12, ground := Go.Ground.phase }, { on := 13, ground := Go.Ground.phase }, { on := 14, ground := Go.Ground.phase }], guard := none }) rfl (fun K hK => ?_) AllReadyH.nil)
            go_simp

            refine hK.out _ _ ?_ (fun hHeld => ?_)
            · (try dsimp only)
              exact HN9.out.1.row.cell (i := 0) (by omega)
            clear hK K
            (try simp only [Act.put, List.setIfInBounds_toArray, List.set_cons_zero, List.set_cons_succ])
            refine wpAnyH_done (by kernel_rfl) ?_ _
            have HNz0 := HN9.out
            obtain ⟨wz, hwz⟩ : ∃ wz, wz = w9.setCell ⟨g, k, none⟩ (.slice A9 N c9) := ⟨_, rfl⟩
            rw [← hwz] at HNz0 ⊢
            have HNz := Lib.hid HNz0
            have x0 : wz.cell? ⟨lb, 0, none⟩ = some (.slice (some ⟨g, 0, none⟩) n n) := HNz.out.1.row.cell (i := 0) (by omega)
            have x1 : wz.frozen? ⟨lb, 1, none⟩ = false := HNz.out.1.row.frozen 1
            have x2 : wz.cell? ⟨lb, 1, none⟩ = some (.int .i64 (at_ : Nat)) := HNz.out.1.row.cell (i := 1) (by omega)
            clear hwz hHeld HN9 HNz0
            clear h9c h9g h9f
            go_wp2
            go_ret2
            exact ⟨_, _, _, HNz.out.1.turn ((k + 1) % n), (Tch.of_below HB.out).trans (HNz.out.2.setCell (p := ⟨lb, 1, none⟩) (.inr (.inl rfl)) _), .inl ⟨j, x, _, hj, HEM.out, HQK.out, by first | (rw [← HKE.out]; done) | (rw [← HKE.out]; rfl), by first | (rw [← HKE.out]; done) | (rw [← HKE.out]; rfl), by first | (rw [← HKE.out]; done) | (rw [← HKE.out]; rfl)⟩⟩
          · go_simp
            (try (rw [hal1 _ _ (by (repeat' (first | (with_reducible exact Below.refl _ _) | (with_reducible assumption) | (with_reducible refine Below.setCell ?_ ?_ _) | (with_reducible refine Below.alloc ?_ ?_ _) | (with_reducible refine below_drewN ?_ _) | (with_reducible refine Below.drew ?_) | go_size)))]; go_simp))
            refine hK.out _ _ ?_ (fun hHeld => ?_)
            · (try dsimp only)
              exact hHeld
            clear hK K
            (try simp only [Act.put, List.setIfInBounds_toArray, List.set_cons_zero, List.set_cons_succ])
            refine wpAnyH_take (i := 13) (oi := { dst := some 59, op := Go.Op.slice 23 (Go.Operand.tmp 58) (some (Go.Operand.const (Go.Value.int Go.IntKind.i64 1))) none none, type := 23, pos := "ref.go:16", after := #[{ on := 12, ground := Go.Ground.data }], guard := none }) (v := ?_) rfl (by kernel_rfl) (by kernel_rfl) (by kernel_rfl) (fun _ _ _ h => h) (Or.inl ⟨by rfl, ?_⟩) (by assumption) ?_
            rotate_left
            · intro w hSw
              (try dsimp only at hSw)
              go_simp
              try with_reducible rfl
            (try simp only [Act.put, List.setIfInBounds_toArray, List.set_cons_zero, List.set_cons_succ])
            refine wpAnyH_ready (rs := [5]) (by kernel_rfl) (by simp) ?_
            refine (AllReadyH.cons (o := { dst := some 51, op := Go.Op.buildSlice 23 0 #[], type := 23, pos := "ref.go:16", after := #[], guard := none }) rfl (fun K hK => ?_) AllReadyH.nil)
            go_simp

            refine hK.out _ _ ?_ (fun hHeld => ?_)
            · (try dsimp only)
              exact hal0 _ _ (by (repeat' (first | (with_reducible exact Below.refl _ _) | (with_reducible assumption) | (with_reducible refine Below.setCell ?_ ?_ _) | (with_reducible refine Below.alloc ?_ ?_ _) | (with_reducible refine below_drewN ?_ _) | (with_reducible refine Below.drew ?_) | go_size)))
            clear hK K
            (try simp only [Act.put, List.setIfInBounds_toArray, List.set_cons_zero, List.set_cons_succ])
            refine wpAnyH_ready (rs := [14]) (by kernel_rfl) (by simp) ?_
            refine (AllReadyH.cons (o := { dst := some 60, op := Go.Op.call { callee := Go.Callee.builtin Go.Builtin.append, args := #[Go.Operand.tmp 51, Go.Operand.tmp 59], argTypes := #[23, 23] }, type := 23, pos := "ref.go:16", after := #[{ on := 5, ground := Go.Ground.data }, { on := 13, ground := Go.Ground.data }], guard := none }) rfl (fun K hK => ?_) AllReadyH.nil)
            refine step_app _ (by rfl) stU64s _ _ (by rfl) (lb + 1) (.slice (some ⟨wr.heap.size, 0, none⟩) 0 0) 0 [] (by rfl) (own_empty_at (by simp) (by have := HLW.out; simp; omega)) _ _ N (kv .u64 r) (by rfl) ((HSL.out).below (by (repeat' (first | (with_reducible exact Below.refl _ _) | (with_reducible assumption) | (with_reducible refine Below.setCell ?_ ?_ _) | (with_reducible refine Below.alloc ?_ ?_ _) | (with_reducible refine below_drewN ?_ _) | (with_reducible refine Below.drew ?_) | go_size)))) (kv_ones _ _) (by omega) (by have := HLW.out; simp; omega) ?_
            intro v9 w9 hown9 hgr9 hat9 hbel9
            obtain ⟨A9, c9, hv9, _, _⟩ := (Sl.of_own hown9).form
            rw [Nat.zero_add] at hv9
            subst hv9
            have HN9 := Lib.hid (HLA9.out _ (by (repeat' (first | (with_reducible exact Below.refl _ _) | (with_reducible assumption) | (with_reducible refine Below.setCell ?_ ?_ _) | (with_reducible refine Below.alloc ?_ ?_ _) | (with_reducible refine below_drewN ?_ _) | (with_reducible refine Below.drew ?_) | go_size))) (by simp) w9 _ (by have := hown9; simp only [Nat.zero_add, List.nil_append] at this ⊢; rw [HN.out]; exact this) hgr9 hat9)
            have h9c : w9.cell? ⟨lb, 0, none⟩ = some (.slice (some ⟨g, 0, none⟩) n n) := (hbel9.cell (p := ⟨lb, 0, none⟩) (by show lb < lb + 1; omega)).trans (hal0 _ _ (by (repeat' (first | (with_reducible exact Below.refl _ _) | (with_reducible assumption) | (with_reducible refine Below.setCell ?_ ?_ _) | (with_reducible refine Below.alloc ?_ ?_ _) | (with_reducible refine below_drewN ?_ _) | (with_reducible refine Below.drew ?_) | go_size))))
            have h9f : w9.frozen? ⟨g, k, none⟩ = false := (hbel9.frozen (p := ⟨g, k, none⟩) (by have := HGL.out; show g < lb + 1; omega)).trans (hal2 _ _ (by (repeat' (first | (with_reducible exact Below.refl _ _) | (with_reducible assumption) | (with_reducible refine Below.setCell ?_ ?_ _) | (with_reducible refine Below.alloc ?_ ?_ _) | (with_reducible refine below_drewN ?_ _) | (with_reducible refine Below.drew ?_) | go_size))))
            have h9g := (hbel9.cell (p := ⟨g, k, none⟩) (by have := HGL.out; show g < lb + 1; omega)).trans (hal1 _ _ (by (repeat' (first | (with_reducible exact Below.refl _ _) | (with_reducible assumption) | (with_reducible refine Below.setCell ?_ ?_ _) | (with_reducible refine Below.alloc ?_ ?_ _) | (with_reducible refine below_drewN ?_ _) | (with_reducible refine Below.drew ?_) | go_size))))
            clear hown9 hgr9 hat9 hbel9
            refine hK.out _ _ ?_ (fun hHeld => ?_)
            · (try dsimp only)
              exact h9c
            clear hK K
            (try simp only [Act.put, List.setIfInBounds_toArray, List.set_cons_zero, List.set_cons_succ])
            refine wpAnyH_take (i := 15) (oi := { dst := some 61, op := Go.Op.indexAddr 62 (Go.Operand.tmp 49) (Go.Operand.tmp 50), type := 0, pos := "ref.go:16", after := #[{ on := 3, ground := Go.Ground.data }, { on := 4, ground := Go.Ground.data }, { on := 0, ground := Go.Ground.phase }, { on := 1, ground := Go.Ground.phase }, { on := 2, ground := Go.Ground.phase }, { on := 3, ground := Go.Ground.phase }, { on := 4, ground := Go.Ground.phase }, { on := 5, ground := Go.Ground.phase }, { on := 6, ground := Go.Ground.phase }, { on := 7, ground := Go.Ground.phase }, { on := 8, ground := Go.Ground.phase }, { on := 9, ground := Go.Ground.phase }, { on := 10, ground := Go.Ground.phase }, { on := 11, ground := Go.Ground.phase }, { on := 12, ground := Go.Ground.phase }, { on := 13, ground := Go.Ground.phase }, { on := 14, ground := Go.Ground.phase }], guard := none }) (v := ?_) rfl (by kernel_rfl) (by kernel_rfl) (by kernel_rfl) (fun _ _ _ h => h) (Or.inl ⟨by rfl, ?_⟩) (by assumption) ?_
            rotate_left
            · intro w hSw
              (try dsimp only at hSw)
              go_simp
              try with_reducible rfl
            (try simp only [Act.put, List.setIfInBounds_toArray, List.set_cons_zero, List.set_cons_succ])
            refine wpAnyH_ready (rs := [16]) (by kernel_rfl) (by simp) ?_
            refine (AllReadyH.cons (o := { dst := none, op := Go.Op.store 23 (Go.Operand.tmp 61) (Go.Operand.tmp 60), type := 0, pos := "ref.go:16", after := #[{ on := 15, ground := Go.Ground.data }, { on := 14, ground := Go.Ground.data }, { on := 14, ground := Go.Ground.chain }, { on := 0, ground := Go.Ground.phase }, { on := 1, ground := Go.Ground.phase }, { on := 2, ground := Go.Ground.phase }, { on := 3, ground := Go.Ground.phase }, { on := 4, ground := Go.Ground.phase }, { on := 5, ground := Go.Ground.phase }, { on := 6, ground := Go.Ground.phase }, { on := 7, ground := Go.Ground.phase }, { on := 8, ground := Go.Ground.phase }, { on := 9, ground := Go.Ground.phase }, { on := 10, ground := Go.Ground.phase }, { on := 11, ground := Go.Ground.phase }, { on := 12, ground := Go.Ground.phase }, { on := 13, ground := Go.Ground.phase }, { on := 14, ground := Go.Ground.phase }], guard := none }) rfl (fun K hK => ?_) AllReadyH.nil)
            go_simp

            refine hK.out _ _ ?_ (fun hHeld => ?_)
            · (try dsimp only)
              exact HN9.out.1.row.cell (i := 0) (by omega)
            clear hK K
            (try simp only [Act.put, List.setIfInBounds_toArray, List.set_cons_zero, List.set_cons_succ])
            refine wpAnyH_done (by kernel_rfl) ?_ _
            have HNz0 := HN9.out
            obtain ⟨wz, hwz⟩ : ∃ wz, wz = w9.setCell ⟨g, k, none⟩ (.slice A9 N c9) := ⟨_, rfl⟩
            rw [← hwz] at HNz0 ⊢
            have HNz := Lib.hid HNz0
            have x0 : wz.cell? ⟨lb, 0, none⟩ = some (.slice (some ⟨g, 0, none⟩) n n) := HNz.out.1.row.cell (i := 0) (by omega)
            have x1 : wz.frozen? ⟨lb, 1, none⟩ = false := HNz.out.1.row.frozen 1
            have x2 : wz.cell? ⟨lb, 1, none⟩ = some (.int .i64 (at_ : Nat)) := HNz.out.1.row.cell (i := 1) (by omega)
            clear hwz hHeld HN9 HNz0
            clear h9c h9g h9f
            go_wp2
            go_ret2
            exact ⟨_, _, _, HNz.out.1.turn ((k + 1) % n), (Tch.of_below HB.out).trans (HNz.out.2.setCell (p := ⟨lb, 1, none⟩) (.inr (.inl rfl)) _), .inl ⟨j, x, _, hj, HEM.out, HQK.out, by first | (rw [← HKE.out]; done) | (rw [← HKE.out]; rfl), by first | (rw [← HKE.out]; done) | (rw [← HKE.out]; rfl), by first | (rw [← HKE.out]; done) | (rw [← HKE.out]; rfl)⟩⟩
    · have d1 : decide (j < n) = false := by simp; omega
      go_wp2
      go_ret2
      obtain rfl : n = j := by omega
      exact ⟨_, _, _, LA.out, Tch.of_below HB.out, .inr ⟨HEM.out, rfl, rfl, rfl⟩⟩
end Go.Proofs.Ytpojnknhmpmhjaa
