/-
  The document's queue in memory: Push, Pop; lists that are the same. No statement is proved here.
-/
import Derived.Test.YtpojnknhmpmhjaaRgA
import Derived.Test.YtpojnknhmpmhjaaMemD
import Derived.Deep.QuietTactic
set_option linter.unusedVariables false
namespace Go.Proofs.Ytpojnknhmpmhjaa
open Go.RowKit

theorem kv_ones (κ : IntKind) (L : List Int) : ∀ u ∈ kv κ L, u.oneCell' = true := by
  intro u hu
  simp only [kv, List.mem_map] at hu
  obtain ⟨x, _, rfl⟩ := hu
  rfl
def queF (n : Nat) (v : Value) : Nat → Value
  | 0 => .int .i64 (n : Nat)
  | _ => v
/-- A queue of n numbers at most, in block qb; its list is v, in a block behind. -/
structure QueAt (w : World) (qb n : Nat) (v : Value) (q : List Int) : Prop where
  row : w.rowIs qb 35 2 (queF n v)
  own : w.ownsRow (qb + 1) 22 1 v q.length (kv .u64 q)
theorem QueAt.tch {D : Nat → Prop} {w w' : World} {qb n : Nat} {v : Value} {q : List Int} (h : QueAt w qb n v q) (ht : Tch D w w') (h1 : ¬ D qb) (h2 : ∀ k, v.ownBlock = some k → ¬ D k) : QueAt w' qb n v q :=
  ⟨rowIs_tch h.row ht h1, own_tch h.own ht h2⟩
theorem QueAt.below {w w' : World} {qb n : Nat} {v : Value} {q : List Int} (h : QueAt w qb n v q) (hb : Below w.heap.size w w') : QueAt w' qb n v q :=
  ⟨h.row.of_block (hb.block _ h.row.lt), own_below h.own hb⟩
theorem own_setCell {w : World} {B size n : Nat} {e : TypeId} {v : Value} {xs : List Value} (h : w.ownsRow B e size v n xs) {p : Addr} (hp : p.block < B) (u : Value) : (w.setCell p u).ownsRow B e size v n xs :=
  own_tch (D := fun k => k = p.block) h ((Tch.refl (fun k => k = p.block) w).setCell rfl u) fun k hk hd => by
    have := (h.lt k hk).1
    omega
theorem queSet {w : World} {qb n : Nat} {v v' : Value} (h : w.rowIs qb 35 2 (queF n v)) : (w.setCell ⟨qb, 1, none⟩ v').rowIs qb 35 2 (queF n v') :=
  (h.set 1 _).congr fun i hi => (by
    match i, hi with
    | 0, _ => rfl
    | 1, _ => rfl)
theorem Tch.grown {w w' : World} {D : Nat → Prop} {row : Option Nat} (h : w.grownBy w' row) (hd : ∀ k, row = some k → D k) : Tch D w w' :=
  ⟨h.os, h.tape, h.output, h.size, fun k hk hn => h.block k hk fun e => hn (hd k e.symm)⟩
/-- What a call did to a queue. -/
def QueDid (qb n : Nat) (v : Value) (q' : List Int) (r : Value) (w : World) (e : Ending) (w' : World) : Prop :=
  e = .returned r ∧ ∃ v', QueAt w' qb n v' q' ∧ Tch (fun k => k = qb ∨ v.ownBlock = some k) w w' ∧ (v'.ownBlock = v.ownBlock ∨ ∀ k, v'.ownBlock = some k → w.heap.size ≤ k)

set_option maxHeartbeats 1600000 in
theorem que_Push {w : World} {qb n : Nat} {v : Value} {q : List Int} (h : QueAt w qb n v q) (hn : q.length ≤ 100000) (x : Int) :
    Calls Try.prog 21 #[.pointer (some ⟨qb, 0, none⟩), .int .u64 x] w (QueDid qb n v (if q.length < n then q ++ [x] else q) (.bool (decide (q.length < n))) w) := by
  have r0 : w.cell? ⟨qb, 0, none⟩ = some (.int .i64 (n : Nat)) := h.row.cell (by omega)
  have r1 : w.cell? ⟨qb, 1, none⟩ = some v := h.row.cell (by omega)
  have r2 : w.frozen? ⟨qb, 1, none⟩ = false := h.row.frozen 1
  have hlt := h.row.lt
  have hov := h.own.lt
  obtain ⟨A, c, hv, hnc, hcm⟩ := (Sl.of_own h.own).form
  subst hv
  unfold maxLen at hcm
  have HQ := Lib.hid h
  have HK : Hid (kv .u64 (q ++ [x]) = kv .u64 q ++ [.int .u64 x]) := kv_append _ _ _
  have HL : Hid ((q ++ [x]).length = q.length + 1) := by show _ = _; simp
  by_cases hc : q.length < n
  · rw [decide_eq_true hc, if_pos hc]
    have d1 : decide ((q.length : Int) ≥ (n : Int)) = false := by simp; omega
    have d2 : decide ((n : Int) ≤ (q.length : Int)) = false := by simp; omega
    have d3 : ¬ (n : Int) ≤ (q.length : Int) := by omega
    have HO := Lib.hid h.own
    have HRow := Lib.hid h.row
    have hal1 : ∀ m o, ((w.drewN m).alloc o).cell? ⟨qb, 1, none⟩ = some (.slice A q.length c) := fun m o => (((below_drewN (Below.refl _ _) m).alloc (Nat.le_refl _) o : Below w.heap.size w _).cell (p := ⟨qb, 1, none⟩) hlt).trans r1
    have hal2 : ∀ m o, ((w.drewN m).alloc o).frozen? ⟨qb, 1, none⟩ = false := fun m o => (((below_drewN (Below.refl _ _) m).alloc (Nat.le_refl _) o : Below w.heap.size w _).frozen (p := ⟨qb, 1, none⟩) hlt).trans r2
    generalize hQ2 : q ++ [x] = q2 at *
    generalize hN : q.length = N at *
    clear h hQ2 hc hnc hcm
    go_enter Try.func21, Try.ntmps21
    go_wp2_with fail
    go_quiet (fail)
    go_wp2_with (first
      | (at_builtin; refine wpList_apv _ rfl stU64s _ _ rfl (qb + 1) (.slice A N c) N (kv .u64 q) rfl ((own_below HO.out (below_drewN (Below.refl _ _) _)).alloc _) _ _ 1 [.int .u64 x] rfl (Sl.lit_at (by rfl) rfl (by decide)) (by simp [Value.oneCell']) (by omega) (by go_size) ?_; intro A2 c2 w2 hown2 hgr2 hat2 hbel2; obtain ⟨hc1, hf1⟩ := bcell hbel2; have r1' := (hc1 qb 1 (by omega)).trans (hal1 _ _); have f1' := (hf1 qb 1 (by omega)).trans (hal2 _ _)))
    have HB2 : Hid (∀ k, k ≤ qb → w2.heap[k]? = w.heap[k]?) := fun k hk => (hbel2.block k (by omega)).trans (((below_drewN (Below.refl _ _) nq).alloc (Nat.le_refl _) _ : Below w.heap.size w _).block k (Nat.lt_of_le_of_lt hk hlt))
    have HR2 := Lib.hid (HRow.out.of_block (HB2.out qb (Nat.le_refl _)))
    have HO2 : Hid (w2.ownsRow (qb + 1) 22 1 (.slice A2 (N + 1) c2) q2.length (kv .u64 q2)) := by rw [HK.out, HL.out]; exact hown2
    have HT2 : Hid (Tch (fun k => k = qb ∨ (Value.slice A N c).ownBlock = some k) w w2) := (((Tch.refl _ w).drewN nq).alloc _).trans (Tch.grown hgr2 fun k e => .inr e)
    have HA2 : Hid ((Value.slice A2 (N + 1) c2).ownBlock = (Value.slice A N c).ownBlock ∨ ∀ k, (Value.slice A2 (N + 1) c2).ownBlock = some k → w.heap.size ≤ k) := by
      rcases hat2 with e | e
      · exact .inl e
      · refine .inr fun k hk => ?_
        rw [e] at hk
        injection hk with hk
        rw [← hk]
        exact ((below_drewN (Below.refl _ _) nq).alloc (Nat.le_refl _) _ : Below w.heap.size w _).size
    clear hown2 hgr2 hat2 hbel2 hc1 hf1 hal1 hal2
    go_wp2
    go_ret
    exact ⟨rfl, _, ⟨queSet HR2.out, own_setCell (p := ⟨qb, 1, none⟩) HO2.out (by show qb < qb + 1; omega) _⟩, HT2.out.setCell (.inl rfl) _, HA2.out⟩
  · rw [decide_eq_false hc, if_neg hc]
    have d1 : decide ((q.length : Int) ≥ (n : Int)) = true := by simp; omega
    have d2 : decide ((n : Int) ≤ (q.length : Int)) = true := by simp; omega
    have d3 : (n : Int) ≤ (q.length : Int) := by omega
    generalize hN : q.length = N at *
    clear h hc hnc hcm
    go_enter Try.func21, Try.ntmps21
    go_wp2_with fail
    go_quiet (fail)
    go_wp2
    go_ret
    exact ⟨rfl, _, HQ.out.below (below_drewN (Below.refl _ _) _), Tch.of_below (below_drewN (Below.refl _ _) _), .inl rfl⟩

theorem que_Pop0 {w : World} {qb n : Nat} {v : Value} (h : QueAt w qb n v []) :
    Calls Try.prog 16 #[.pointer (some ⟨qb, 0, none⟩)] w fun e w' => e = .returned (.tuple #[.int .u64 0, .bool false]) ∧ w = w' := by
  have r1 : w.cell? ⟨qb, 1, none⟩ = some v := h.row.cell (by omega)
  obtain ⟨A, c, hv, hnc, hcm⟩ := (Sl.of_own h.own).form
  subst hv
  clear h
  go_enter Try.func16, Try.ntmps16
  go_wp2
  go_ret2
  exact ⟨rfl, rfl⟩

set_option maxHeartbeats 1600000 in
theorem que_Pop {w : World} {qb n : Nat} {v : Value} {x : Int} {q : List Int} (h : QueAt w qb n v (x :: q)) (hn : q.length ≤ 100000) :
    Calls Try.prog 16 #[.pointer (some ⟨qb, 0, none⟩)] w (QueDid qb n v q (.tuple #[.int .u64 x, .bool true]) w) := by
  have r1 : w.cell? ⟨qb, 1, none⟩ = some v := h.row.cell (by omega)
  have r2 : w.frozen? ⟨qb, 1, none⟩ = false := h.row.frozen 1
  have hlt := h.row.lt
  have hov := h.own.lt
  have hsl := Sl.of_own h.own
  have HRow := Lib.hid h.row
  rw [show (x :: q).length = q.length + 1 from rfl] at hsl
  obtain ⟨_, A, c, hv, hnc, hcm, hA⟩ := hsl
  subst hv
  unfold maxLen at hcm
  obtain ⟨bb, off, rfl, hbb, hc⟩ := hA (by omega)
  have c0 : w.cell? ⟨bb, off, none⟩ = some (.int .u64 x) := by
    have := hc 0 (by omega)
    simpa [kv] using this
  have HSL : Hid (Sl w w.heap.size 1 (.slice (some ⟨bb, off + 1, none⟩) q.length (c - 1)) q.length (kv .u64 q)) := by
    refine ⟨by rw [kv_length]; omega, some ⟨bb, off + 1, none⟩, c - 1, rfl, by omega, by unfold maxLen; omega, fun hh => ⟨bb, off + 1, rfl, hbb, fun j hj => ?_⟩⟩
    have := hc (j + 1) (by omega)
    rw [show off + 1 + j = off + (j + 1) by omega, this]
    simp [kv]
  have hal1 : ∀ o, (w.alloc o).cell? ⟨qb, 1, none⟩ = some (.slice (some ⟨bb, off, none⟩) (q.length + 1) c) := fun o => (World.cell?_alloc_lt _ _ _ hlt).trans r1
  have hal2 : ∀ o, (w.alloc o).frozen? ⟨qb, 1, none⟩ = false := fun o => (((Below.refl _ _).alloc (Nat.le_refl _) o : Below w.heap.size w _).frozen (p := ⟨qb, 1, none⟩) hlt).trans r2
  obtain ⟨N, hN⟩ : ∃ N, N = q.length := ⟨_, rfl⟩
  rw [← hN] at HSL hal1 r1 hn hnc ⊢
  have HN : Hid (q.length = N) := hN.symm
  clear h hc hA hov
  by_cases h0 : N = 0
  · have hq : q = [] := List.length_eq_zero_iff.1 (by rw [← hN]; exact h0)
    subst hq
    subst h0
    have HLS : ∀ A cap (W : World), cap ≤ 9223372036854775807 → Sl W 0 1 (.slice A 0 cap) 0 (kv .u64 []) := fun A cap W hc => ⟨rfl, A, cap, rfl, Nat.zero_le _, by unfold maxLen; omega, fun hh => absurd hh (by omega)⟩
    clear HSL hN
    rw [Nat.zero_add] at r1 hnc
    rw [show 0 + 1 = 1 from rfl] at hal1
    by_cases h1 : c = 1
    · subst h1
      go_enter Try.func16, Try.ntmps16
      go_wp2_with (first
        | (at_builtin; refine wpList_apv _ rfl stU64s _ _ rfl (qb + 1) (.slice (some ⟨w.heap.size, 0, none⟩) 0 0) 0 [] rfl (own_empty_at rfl (by omega)) _ _ 0 (kv .u64 ([] : List Int)) rfl (HLS _ _ _ (by omega)) (kv_ones _ _) (by omega) (by go_size) ?_; intro A2 c2 w2 hown2 hgr2 hat2 hbel2; obtain ⟨hc1, hf1⟩ := bcell hbel2; have r1' := (hc1 qb 1 (by omega)).trans (hal1 _); have f1' := (hf1 qb 1 (by omega)).trans (hal2 _)))
      have HB2 : Hid (∀ k, k ≤ qb → w2.heap[k]? = w.heap[k]?) := fun k hk => (hbel2.block k (by omega)).trans (((Below.refl _ _).alloc (Nat.le_refl _) _ : Below w.heap.size w _).block k (Nat.lt_of_le_of_lt hk hlt))
      have HR2 := Lib.hid (HRow.out.of_block (HB2.out qb (Nat.le_refl _)))
      have HO2 : Hid (w2.ownsRow (qb + 1) 22 1 (.slice A2 (0 + 0) c2) ([] : List Int).length (kv .u64 ([] : List Int))) := by
        rw [HN.out]
        have := hown2
        rw [Nat.zero_add, List.nil_append] at this
        rw [Nat.zero_add]
        exact this
      have HT2 : Hid (Tch (fun k => k = qb) w w2) := by
        refine ⟨hgr2.os, hgr2.tape, hgr2.output, Nat.le_trans ((Below.refl _ _).alloc (Nat.le_refl _) _ : Below w.heap.size w _).size hgr2.size, fun k hk hn => ?_⟩
        refine (hgr2.block k (Nat.lt_of_lt_of_le hk ((Below.refl _ _).alloc (Nat.le_refl _) _ : Below w.heap.size w _).size) ?_).trans (((Below.refl _ _).alloc (Nat.le_refl _) _ : Below w.heap.size w _).block k hk)
        intro e
        have e : some k = some w.heap.size := e
        injection e with e
        omega
      have HA2 : Hid (∀ k, (Value.slice A2 (0 + 0) c2).ownBlock = some k → w.heap.size ≤ k) := by
        intro k hk
        rcases hat2 with e | e
        · rw [e] at hk
          have hk : some w.heap.size = some k := hk
          injection hk with hk
          omega
        · rw [e] at hk
          injection hk with hk
          rw [← hk]
          simp
      clear hown2 hgr2 hat2 hbel2 hc1 hf1 hal1 hal2
      go_wp2
      go_ret2
      exact ⟨rfl, _, ⟨queSet HR2.out, own_setCell (p := ⟨qb, 1, none⟩) HO2.out (by show qb < qb + 1; omega) _⟩, (HT2.out.setCell (D := fun k => k = qb) rfl _).mono fun k _ h => .inl h, .inr HA2.out⟩
    · have h2 : ¬ c - 1 = 0 := by omega
      go_enter Try.func16, Try.ntmps16
      go_wp2_with (first
        | (at_builtin; refine wpList_apv _ rfl stU64s _ _ rfl (qb + 1) (.slice (some ⟨w.heap.size, 0, none⟩) 0 0) 0 [] rfl (own_empty_at rfl (by omega)) _ _ 0 (kv .u64 ([] : List Int)) rfl (HLS _ _ _ (by omega)) (kv_ones _ _) (by omega) (by go_size) ?_; intro A2 c2 w2 hown2 hgr2 hat2 hbel2; obtain ⟨hc1, hf1⟩ := bcell hbel2; have r1' := (hc1 qb 1 (by omega)).trans (hal1 _); have f1' := (hf1 qb 1 (by omega)).trans (hal2 _)))
      have HB2 : Hid (∀ k, k ≤ qb → w2.heap[k]? = w.heap[k]?) := fun k hk => (hbel2.block k (by omega)).trans (((Below.refl _ _).alloc (Nat.le_refl _) _ : Below w.heap.size w _).block k (Nat.lt_of_le_of_lt hk hlt))
      have HR2 := Lib.hid (HRow.out.of_block (HB2.out qb (Nat.le_refl _)))
      have HO2 : Hid (w2.ownsRow (qb + 1) 22 1 (.slice A2 (0 + 0) c2) ([] : List Int).length (kv .u64 ([] : List Int))) := by
        rw [HN.out]
        have := hown2
        rw [Nat.zero_add, List.nil_append] at this
        rw [Nat.zero_add]
        exact this
      have HT2 : Hid (Tch (fun k => k = qb) w w2) := by
        refine ⟨hgr2.os, hgr2.tape, hgr2.output, Nat.le_trans ((Below.refl _ _).alloc (Nat.le_refl _) _ : Below w.heap.size w _).size hgr2.size, fun k hk hn => ?_⟩
        refine (hgr2.block k (Nat.lt_of_lt_of_le hk ((Below.refl _ _).alloc (Nat.le_refl _) _ : Below w.heap.size w _).size) ?_).trans (((Below.refl _ _).alloc (Nat.le_refl _) _ : Below w.heap.size w _).block k hk)
        intro e
        have e : some k = some w.heap.size := e
        injection e with e
        omega
      have HA2 : Hid (∀ k, (Value.slice A2 (0 + 0) c2).ownBlock = some k → w.heap.size ≤ k) := by
        intro k hk
        rcases hat2 with e | e
        · rw [e] at hk
          have hk : some w.heap.size = some k := hk
          injection hk with hk
          omega
        · rw [e] at hk
          injection hk with hk
          rw [← hk]
          simp
      clear hown2 hgr2 hat2 hbel2 hc1 hf1 hal1 hal2
      go_wp2
      go_ret2
      exact ⟨rfl, _, ⟨queSet HR2.out, own_setCell (p := ⟨qb, 1, none⟩) HO2.out (by show qb < qb + 1; omega) _⟩, (HT2.out.setCell (D := fun k => k = qb) rfl _).mono fun k _ h => .inl h, .inr HA2.out⟩
  · have h1 : ¬ c = 1 := by omega
    have h2 : ¬ c - 1 = 0 := by omega
    clear hN
    go_enter Try.func16, Try.ntmps16
    go_wp2_with (first
      | (at_builtin; refine wpList_apv _ rfl stU64s _ _ rfl (qb + 1) (.slice (some ⟨w.heap.size, 0, none⟩) 0 0) 0 [] rfl (own_empty_at rfl (by omega)) _ _ N (kv .u64 q) rfl (HSL.out.alloc (Nat.le_refl _) _) (kv_ones _ _) (by omega) (by go_size) ?_; intro A2 c2 w2 hown2 hgr2 hat2 hbel2; obtain ⟨hc1, hf1⟩ := bcell hbel2; have r1' := (hc1 qb 1 (by omega)).trans (hal1 _); have f1' := (hf1 qb 1 (by omega)).trans (hal2 _)))
    have HB2 : Hid (∀ k, k ≤ qb → w2.heap[k]? = w.heap[k]?) := fun k hk => (hbel2.block k (by omega)).trans (((Below.refl _ _).alloc (Nat.le_refl _) _ : Below w.heap.size w _).block k (Nat.lt_of_le_of_lt hk hlt))
    have HR2 := Lib.hid (HRow.out.of_block (HB2.out qb (Nat.le_refl _)))
    have HO2 : Hid (w2.ownsRow (qb + 1) 22 1 (.slice A2 (0 + N) c2) q.length (kv .u64 q)) := by
      rw [HN.out]
      have := hown2
      rw [Nat.zero_add, List.nil_append] at this
      rw [Nat.zero_add]
      exact this
    have HT2 : Hid (Tch (fun k => k = qb) w w2) := by
      refine ⟨hgr2.os, hgr2.tape, hgr2.output, Nat.le_trans ((Below.refl _ _).alloc (Nat.le_refl _) _ : Below w.heap.size w _).size hgr2.size, fun k hk hn => ?_⟩
      refine (hgr2.block k (Nat.lt_of_lt_of_le hk ((Below.refl _ _).alloc (Nat.le_refl _) _ : Below w.heap.size w _).size) ?_).trans (((Below.refl _ _).alloc (Nat.le_refl _) _ : Below w.heap.size w _).block k hk)
      intro e
      have e : some k = some w.heap.size := e
      injection e with e
      omega
    have HA2 : Hid (∀ k, (Value.slice A2 (0 + N) c2).ownBlock = some k → w.heap.size ≤ k) := by
      intro k hk
      rcases hat2 with e | e
      · rw [e] at hk
        have hk : some w.heap.size = some k := hk
        injection hk with hk
        omega
      · rw [e] at hk
        injection hk with hk
        rw [← hk]
        simp
    rw [Nat.zero_add] at HO2 HA2
    clear hown2 hgr2 hat2 hbel2 hc1 hf1 hal1 hal2
    go_wp2
    go_ret2
    exact ⟨rfl, _, ⟨queSet HR2.out, own_setCell (p := ⟨qb, 1, none⟩) HO2.out (by show qb < qb + 1; omega) _⟩, (HT2.out.setCell (D := fun k => k = qb) rfl _).mono fun k _ h => .inl h, .inr HA2.out⟩
end Go.Proofs.Ytpojnknhmpmhjaa
