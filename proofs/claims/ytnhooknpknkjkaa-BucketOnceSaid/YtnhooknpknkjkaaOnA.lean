/-
  A table from keys to numbers, as a map of the call's own; a row of places beside it. No statement is proved here.
-/
import Derived.Test.YtnhooknpknkjkaaPlainOn
import Derived.Maps.OwnSet
import Derived.Maps.OwnOps
import Derived.DeepKeys4
import Derived.WalkArith
set_option linter.unusedVariables false
namespace Go.Proofs.Ytnhooknpknkjkaa
open Go.RowKit Go.Maps Go.ChangeMaps

theorem k8_laid : laidOutB Try.prog = true := by kernel_rfl
theorem k8_row : (25 : TypeId) < Try.prog.types.size := of_decide_eq_true (by kernel_rfl)
theorem k8_wide : (match Try.prog.underlying 25 with | some (.array _ _) | some (.struct _) => true | _ => false) = true := by kernel_rfl
theorem k8_keyed : Keyed Try.prog 25 := Keyed.of_law (deep_law_laid k8_laid (m := 3) (by omega) k8_row (by kernel_rfl) k8_wide)
def rngK (v : Int) (m : Nat) : Prop := (-9223372036854775808 ≤ v ∧ v ≤ 9223372036854775807) ∧ m < 18446744073709551616
theorem k8_size : ∃ s, Try.prog.types.size = s + 1 := ⟨_, (Nat.succ_pred_eq_of_pos (Nat.lt_of_le_of_lt (Nat.zero_le _) k8_row)).symm⟩
theorem k8_type : Try.prog.keyType 25 = true := by kernel_rfl
theorem k8_cells : Try.prog.cellsOf 25 = 2 := by kernel_rfl
theorem k8_c3 : Try.prog.cellsOf 3 = 1 := by kernel_rfl
theorem k8_c24 : Try.prog.cellsOf 23 = 1 := by kernel_rfl
theorem k8_reads {v : Int} {m : Nat} (h : rngK v m) : ∃ kl, keyOf Try.prog 25 (.agg #[.int .i64 v, .int .u64 (m : Int)]) = some kl := by
  obtain ⟨⟨h1, h2⟩, h3⟩ := h
  have hf : (Value.agg #[.int .i64 v, .int .u64 (m : Int)]).formed Try.prog 25 = true := by simp [Value.formed, Try.underlying25, k8_cells]
  have w1 : (Lit.int .i64 v).wf = true := Go.WalkArith.wf_i64 ⟨h1, h2⟩
  have w2 : (Lit.int .u64 (m : Int)).wf = true := Go.WalkArith.wf_u64 (by omega)
  obtain ⟨s, hs⟩ := k8_size
  unfold keyOf
  rw [Try.underlying25]
  simp only [k8_type, hf, Bool.and_self, if_true]
  rw [hs]
  obtain ⟨s2, rfl⟩ : ∃ s2, s = s2 + 1 := ⟨_, (Nat.succ_pred_eq_of_pos (show 0 < s by have := k8_row; rw [hs] at this; exact Nat.lt_of_lt_of_le (by decide : 0 < (25 : Nat)) (Nat.le_of_lt_succ this))).symm⟩
  simp [Program.keyLits, Try.underlying25, Try.underlying3, Try.underlying23, k8_cells, k8_c3, k8_c24, Value.cells, w1, w2]
noncomputable def klOf (v : Int) (m : Nat) : Lit := (keyOf Try.prog 25 (.agg #[.int .i64 v, .int .u64 (m : Int)])).getD (.bool false)
theorem klOf_rd {v : Int} {m : Nat} (h : rngK v m) : keyOf Try.prog 25 (.agg #[.int .i64 v, .int .u64 (m : Int)]) = some (klOf v m) := by
  obtain ⟨kl, e⟩ := k8_reads h
  unfold klOf
  rw [e]
  rfl
theorem klOf_ne {v v' : Int} {m m' : Nat} (h : rngK v m) (h' : rngK v' m') (hne : ¬ (v' = v ∧ m' = m)) : klOf v' m' ≠ klOf v m := fun e => by
  have h1 := klOf_rd h
  rw [← e] at h1
  have h2 := k8_keyed.inj (klOf_rd h') h1
  simp at h2
  exact hne ⟨h2.1, Int.ofNat_inj.1 h2.2⟩
set_option maxRecDepth 100000 in
theorem klOf_key {v : Int} {m : Nat} (h : rngK v m) : WideAt.IsKeyLit (klOf v m) := by
  have h1 := klOf_rd h
  generalize klOf v m = kl at *
  generalize (Value.agg #[.int .i64 v, .int .u64 (m : Int)]) = x at *
  exact Keyed.key k8_keyed h1
/-- A map reads as a table. -/
structure MapR (D : DataW Unit) (K : Int → Nat → Option Int) (c : Nat) : Prop where
  has : ∀ v m, rngK v m → Maps.has D (klOf v m) = (K v m).isSome
  at_ : ∀ v m p, rngK v m → K v m = some p → D.atKey (klOf v m) (.lit (.int .i64 0)) = .lit (.int .i64 p)
  size : Maps.size D = c
theorem mapR_new : MapR (.map []) (fun _ _ => none) 0 := ⟨fun v m _ => (by rw [Maps.has_eq]; rfl), fun _ _ _ _ h => (by cases h), rfl⟩
set_option maxRecDepth 100000 in
theorem MapR.put {D : DataW Unit} {K : Int → Nat → Option Int} {c : Nat} (h : MapR D K c) (hD : Tidy D) {v : Int} {m : Nat} (hr : rngK v m) (p : Int) : MapR (D.put (klOf v m) (.lit (.int .i64 p))) (putK K v m p) (c + if (K v m).isSome then 0 else 1) := by
  have hk := klOf_key hr
  refine ⟨fun v' m' h' => ?_, fun v' m' p' h' e => ?_, ?_⟩
  · unfold putK
    by_cases a : v' = v ∧ m' = m
    · rw [if_pos a, a.1, a.2, has_put_same hD.isMap hk]; rfl
    · rw [if_neg a, has_put_other (klOf_ne hr h' a)]; exact h.has _ _ h'
  · unfold putK at e
    by_cases a : v' = v ∧ m' = m
    · rw [if_pos a] at e
      injection e with e
      rw [a.1, a.2, atKey_put_same hD.isMap hk, e]
    · rw [if_neg a] at e
      rw [atKey_put_other (klOf_ne hr h' a)]; exact h.at_ _ _ _ h' e
  · rw [size_put hD, h.has _ _ hr, h.size]
    split <;> simp_all
set_option maxRecDepth 100000 in
theorem MapR.del {D : DataW Unit} {K : Int → Nat → Option Int} {c : Nat} (h : MapR D K c) (hD : Tidy D) {v : Int} {m : Nat} (hr : rngK v m) : MapR (D.del (klOf v m)) (delK K v m) (c - if (K v m).isSome then 1 else 0) := by
  refine ⟨fun v' m' h' => ?_, fun v' m' p' h' e => ?_, ?_⟩
  · unfold delK
    by_cases a : v' = v ∧ m' = m
    · rw [if_pos a, a.1, a.2, has_del_same]; rfl
    · rw [if_neg a, has_del_other (klOf_ne hr h' a)]; exact h.has _ _ h'
  · unfold delK at e
    by_cases a : v' = v ∧ m' = m
    · rw [if_pos a] at e; cases e
    · rw [if_neg a] at e
      rw [atKey_del_other (klOf_ne hr h' a)]; exact h.at_ _ _ _ h' e
  · have h1 := size_del hD (k := klOf v m)
    rw [h.has _ _ hr, h.size] at h1
    omega
/-- A row of places that lies apart from the map's block. -/
def RowX (w : World) (mb : Nat) (y : Value) (n : Nat) (f : Nat → Pl) : Prop :=
  ∃ A cap, y = .slice A n cap ∧ n ≤ cap ∧ cap ≤ maxLen ∧ ∃ b off, A = some ⟨b, off, none⟩ ∧ b < w.heap.size ∧ b ≠ mb ∧ ∀ j, j < n → plHolds w b (off + j * 6) (f j)
theorem RowX.row {w : World} {mb n : Nat} {y : Value} {f : Nat → Pl} (h : RowX w mb y n f) : PlRow w w.heap.size y n f := by
  obtain ⟨A, cap, h1, h2, h3, b, off, h4, h5, _, h6⟩ := h
  exact ⟨A, cap, h1, h2, h3, fun _ => ⟨b, off, h4, h5, h6⟩⟩
theorem RowX.of_row {w : World} {T : TypeId} {B mb n : Nat} {y : Value} {f : Nat → Pl} (h : RowOf w T B y n f) (hn : 0 < n) (hB : mb < B) : RowX w mb y n f := by
  obtain ⟨A, cap, h1, h2, h3, h4⟩ := h
  obtain ⟨g, G, e, hg, hr, hG⟩ := h4 hn
  exact ⟨A, cap, h1, h2, h3, g, 0, e, hr.lt, by omega, fun j hj => by rw [Nat.zero_add]; exact rowG_holds hr (by omega) hG hj⟩
theorem plHolds_block {w w' : World} {b o : Nat} {x : Pl} (h : plHolds w b o x) (hb : w'.heap[b]? = w.heap[b]?) : plHolds w' b o x := by
  obtain ⟨h0, h1, h2, h3, h4, h5⟩ := h
  have hc : ∀ k, w'.cell? ⟨b, k, none⟩ = w.cell? ⟨b, k, none⟩ := fun k => World.cell?_of_block hb
  exact ⟨(hc _).trans h0, (hc _).trans h1, (hc _).trans h2, (hc _).trans h3, (hc _).trans h4, (hc _).trans h5⟩
theorem RowX.kept {w w' : World} {mb n : Nat} {y : Value} {f : Nat → Pl} (h : RowX w mb y n f) (hg : w.grownBy w' (some mb)) : RowX w' mb y n f := by
  obtain ⟨A, cap, h1, h2, h3, b, off, h4, h5, h6, h7⟩ := h
  exact ⟨A, cap, h1, h2, h3, b, off, h4, Nat.lt_of_lt_of_le h5 hg.size, h6, fun j hj => plHolds_block (h7 j hj) (hg.block b h5 (by intro e; injection e with e; exact h6 e))⟩
theorem RowX.below {w w' : World} {mb n : Nat} {y : Value} {f : Nat → Pl} (h : RowX w mb y n f) (hg : Below w.heap.size w w') : RowX w' mb y n f := by
  obtain ⟨A, cap, h1, h2, h3, b, off, h4, h5, h6, h7⟩ := h
  exact ⟨A, cap, h1, h2, h3, b, off, h4, Nat.lt_of_lt_of_le h5 hg.size, h6, fun j hj => plHolds_block (h7 j hj) (hg.block b h5)⟩
end Go.Proofs.Ytnhooknpknkjkaa
